import PyProof.Rows.All
import Wide.All
import OpenK.AllK
import Wide.FinOn
import Lean
import PyProof.EqAt
import PyProof.EqKinds
import PyProof.TupleCall
import KE.KRevSl
import KE.KTryMore
import Open.Pieces
import OpenK.KQuick
import OpenK.KWalk
import PyProof.ExcAttrAll.ValueError
import PyProof.FitsBits
import PyProof.NeKinds
import PySem.Challenge.RW_countkin_k11_led_by_parts
set_option Elab.async false
set_option linter.all false
set_option maxRecDepth 100000
/-! THE HAND LAYER, for ints, bools, texts, own classes, LISTS and tuples (index, slices, in, append, pop ..), calls, loops. Paste it whole ahead of your own text; what your proof does not reach may be deleted. -/
namespace L2
open PySem PySem.Spec PyProof.Rows

/-- a key: an int or a str -/
noncomputable abbrev Key := Sum Int Str
noncomputable def keyIs : Key → Value → Bool
  | .inl k, v => Value.isInt k v
  | .inr x, v => Value.isStrOf x v
noncomputable def keyH (w : World) : Key → Int
  | .inl k => hashInt k
  | .inr x => hashStr w x
theorem keyIs_shape : ∀ {k : Key} {v : Value}, keyIs k v = true → (∃ i t, k = Sum.inl i ∧ v = Value.int i t) ∨ (∃ x t, k = Sum.inr x ∧ v = Value.str x t)
  | .inl i, v, h => by
    obtain ⟨t, e⟩ := Value.isInt_shape (k := i) (v := v) h
    exact .inl ⟨i, t, rfl, e⟩
  | .inr x, v, h => by
    obtain ⟨t, e⟩ := Value.isStrOf_shape (x := x) (v := v) h
    exact .inr ⟨x, t, rfl, e⟩
theorem key_ll (a b : Int) : decide ((Sum.inl a : Key) = Sum.inl b) = (a == b) := by
  by_cases e : a = b
  · subst e; simp
  · have h : ¬ (Sum.inl a : Key) = Sum.inl b := fun q => e (Sum.inl.inj q)
    rw [decide_eq_false h]
    exact (beq_eq_false_iff_ne.mpr e).symm
theorem key_rr (a b : Str) : decide ((Sum.inr a : Key) = Sum.inr b) = decide (a = b) := by
  by_cases e : a = b
  · subst e; simp
  · have h : ¬ (Sum.inr a : Key) = Sum.inr b := fun q => e (Sum.inr.inj q)
    rw [decide_eq_false h, decide_eq_false e]
theorem key_lr (a : Int) (b : Str) : decide ((Sum.inl a : Key) = Sum.inr b) = false := decide_eq_false (fun q => nomatch q)
theorem key_rl (a : Str) (b : Int) : decide ((Sum.inr a : Key) = Sum.inl b) = false := decide_eq_false (fun q => nomatch q)

noncomputable def mixKind (prog : Program) (w : World) : PySem.KeyKind prog w Key where
  is := keyIs
  hash := keyH w
  inj := fun v a b ha hb => by
    rcases keyIs_shape ha with ⟨i, t, rfl, rfl⟩ | ⟨x, t, rfl, rfl⟩
    · rcases keyIs_shape hb with ⟨j, u, rfl, e⟩ | ⟨y, u, rfl, e⟩
      · injection e with e1 _; rw [e1]
      · exact nomatch e
    · rcases keyIs_shape hb with ⟨j, u, rfl, e⟩ | ⟨y, u, rfl, e⟩
      · exact nomatch e
      · injection e with e1 _; rw [e1]
  byValue := fun k v h => by
    rcases keyIs_shape h with ⟨i, t, rfl, rfl⟩ | ⟨x, t, rfl, rfl⟩ <;> rfl
  pyHash := fun hv h => by
    rcases keyIs_shape hv with ⟨i, t, rfl, rfl⟩ | ⟨x, t, rfl, rfl⟩
    · exact wpAny_pyHash_int h
    · exact wpAny_pyHash_str h
  eqBool := fun hu hv h => by
    rcases keyIs_shape hu with ⟨i, t, rfl, rfl⟩ | ⟨x, t, rfl, rfl⟩
    · rcases keyIs_shape hv with ⟨j, u, rfl, rfl⟩ | ⟨y, u, rfl, rfl⟩
      · rw [key_ll] at h; exact wpAny_eqBool_int h
      · rw [key_lr] at h; exact SeqAt.EqAt.int_str i t y u _ _ _ _ h
    · rcases keyIs_shape hv with ⟨j, u, rfl, rfl⟩ | ⟨y, u, rfl, rfl⟩
      · rw [key_rl] at h; exact SeqAt.EqAt.str_int x t j u _ _ _ _ h
      · rw [key_rr] at h; exact wpAny_eqBool_str h
  «strs» := fun k x t v h => by
    rcases keyIs_shape h with ⟨i, u, rfl, e⟩ | ⟨y, u, rfl, e⟩
    · exact nomatch e
    · injection e with e1 _
      subst e1
      cases v <;> rfl

end L2

namespace L2
open PySem PySem.Spec PyProof.Rows

/-- a value, without the heap -/
inductive V where
  | non | bl (b : Bool) | int (i : Int) | str (x : Str) | byt (b : Array UInt8) | flt (b : UInt64) | ref (a : Addr) | ty (n : String)
  deriving DecidableEq

noncomputable def RelV : V → Value → Prop
  | .non, u => u = Value.none
  | .bl b, u => u = Value.bool b
  | .int i, u => ∃ t, u = Value.int i t
  | .str x, u => ∃ t, u = Value.str x t
  | .byt b, u => ∃ t, u = Value.bytes b t
  | .flt b, u => ∃ t, u = Value.float b t
  | .ref a, u => u = Value.ref a
  | .ty n, u => u = Value.type n

noncomputable abbrev Vals : List V → List Value → Prop := Paired RelV
theorem Vals.length {xs : List V} {us : List Value} (r : Vals xs us) : xs.length = us.length := Paired.length r
theorem Vals.get : ∀ {xs : List V} {us : List Value} {i : Nat} {x : V}, Vals xs us → xs[i]? = some x → ∃ u, us[i]? = some u ∧ RelV x u
  | _, _, _, _, .nil, e => by simp at e
  | _, _, 0, _, .cons r _, e => by simp at e; subst e; exact ⟨_, rfl, r⟩
  | _, _, i + 1, x, .cons _ t, e => by
    obtain ⟨u, h1, h2⟩ := Vals.get (i := i) (x := x) t (by simpa using e)
    exact ⟨u, by simpa using h1, h2⟩
theorem Vals.set {x : V} {u : Value} (r : RelV x u) : ∀ {xs : List V} {us : List Value} (i : Nat), Vals xs us → Vals (xs.set i x) (us.set i u)
  | _, _, _, .nil => .nil
  | _, _, 0, .cons _ t => .cons r t
  | _, _, i + 1, .cons q t => .cons q (Vals.set r i t)
theorem Vals.append : ∀ {xs ys : List V} {us ws : List Value}, Vals xs us → Vals ys ws → Vals (xs ++ ys) (us ++ ws)
  | _, _, _, _, .nil, s => s
  | _, _, _, _, .cons r t, s => .cons r (Vals.append t s)
theorem Vals.take : ∀ {xs : List V} {us : List Value} (n : Nat), Vals xs us → Vals (xs.take n) (us.take n)
  | _, _, 0, _ => .nil
  | _, _, _ + 1, .nil => .nil
  | _, _, n + 1, .cons r t => .cons r (Vals.take n t)
theorem Vals.drop : ∀ {xs : List V} {us : List Value} (n : Nat), Vals xs us → Vals (xs.drop n) (us.drop n)
  | _, _, 0, r => r
  | _, _, _ + 1, .nil => .nil
  | _, _, n + 1, .cons _ t => Vals.drop n t
noncomputable def RelO : Option V → Option Value → Prop
  | some v, some u => RelV v u
  | none, none => True
  | _, _ => False
noncomputable def KV {κ : Type} : List (κ × V) → List (κ × Value) → Prop := Paired fun (p : κ × V) (q : κ × Value) => p.1 = q.1 ∧ RelV p.2 q.2

/-- a key of a dict (00_mix): an int or a text -/
noncomputable def kV : Key → V
  | .inl i => .int i
  | .inr x => .str x

/-- what stands at a tracked address -/
inductive HO where
  /-- a list -/
  | lst (xs : List V)
  /-- a tuple (never changes) -/
  | tup (xs : List V)
  /-- a dict whose keys are ints and texts; one whose keys are tuples of ints and texts (the empty one is both) -/
  | dK (kvs : List (Key × V)) | dT (kvs : List (List Key × V))
  /-- a set of ints: its members, its size -/
  | set (S : Int → Bool) (n : Nat)
  /-- an instance of the class at C, its dict at dx, its attributes -/
  | ins (C dx : Addr) (fs : List (Str × V))
  /-- the dict of the instance at x -/
  | own (x : Addr)
  /-- the dict of an exception -/
  | xd (fs : List (Str × V))
  /-- a bound method, f of x -/
  | met (f x : Addr)
  /-- a range object lo, lo + 1, .. below hi -/
  | rng (lo hi : Int)
  /-- a thing that is known to the object (the script; a dict while a loop walks it): read, never written while it is so -/
  | frz (o : Obj) (u : HO)
  /-- a code object's table -/
  | tbl (ps : Array Value)
  /-- any other thing, by what is true of its one object (a def of one's own: SetO a S n := HO.ext fun h => ..) -/
  | ext (φ : Heap → Prop)

noncomputable abbrev Hp := Addr → Option HO
noncomputable def upd (H : Hp) (a : Addr) (o : HO) : Hp := fun b => if b = a then some o else H b
theorem upd_same {H : Hp} {a : Addr} {o : HO} : upd H a o a = some o := by unfold upd; rw [if_pos rfl]
theorem upd_ne {H : Hp} {a b : Addr} {o : HO} (h : b ≠ a) : upd H a o b = H b := by unfold upd; rw [if_neg h]
theorem upd_upd {H : Hp} {a : Addr} {o u : HO} : upd (upd H a o) a u = upd H a u := by
  funext b; unfold upd; split <;> rfl
theorem ne_of_none {H : Hp} {a b : Addr} {o : HO} (h : H a = some o) (h' : H b = none) : a ≠ b := by
  intro e; subst e; rw [h] at h'; cases h'

section
variable (P : Program) (w : World)
noncomputable def ObjOk (H : Hp) (h : Heap) (a : Addr) : HO → Prop
  | .lst xs => xs.length ≤ sizeLine ∧ ∃ (its : List Value) (n : Nat), Vals xs its ∧ h.get? a = some { cls := .type "list", data := .seq its.toArray n }
  | .tup xs => xs.length ≤ sizeLine ∧ ∃ its : List Value, Vals xs its ∧ IsTup h a its.toArray
  | .dK kvs => kvs.length ≤ sizeLine ∧ (a == sysModules) = false ∧ ∃ vs, KV kvs vs ∧ h.DictOf (mixKind P w) a vs
  | .dT kvs => kvs.length ≤ sizeLine ∧ (a == sysModules) = false ∧ ∃ xs : List (List Key × Addr × Value),
      Paired (fun (p : List Key × V) (q : List Key × Addr × Value) => p.1 = q.1 ∧ H q.2.1 = some (.tup (p.1.map kV)) ∧ RelV p.2 q.2.2) kvs xs ∧
      ∃ o es ep, h.get? a = some o ∧ o.ExactDict ∧ o.data = .dict es ep ∧ es.toList = xs.map (entryOfKey (tupleKind (mixKind P w))) ∧ (xs.map (·.1)).Nodup
  | .set S n => h.SetOf (intKind P w) a S n
  | .ins C dx fs => H dx = some (.own a) ∧ fs.length ≤ 1000 ∧ dx ≠ a ∧ h.get? a = some (PySem.W.instObj C dx) ∧
      ∃ mA, h.Ns1 dx mA ∧ (∀ f, RelO (fs.lookup f) (mA f)) ∧ PySem.Within mA (fs.map (·.1))
  | .own _ => ∃ o, h.get? a = some o
  | .xd fs => ∃ mA, h.Ns1 a mA ∧ ∀ f, RelO (fs.lookup f) (mA f)
  | .rng lo hi => ∃ t u v, h.get? a = some { cls := .type "range", data := .fields #[.int lo t, .int hi u, .int 1 v] }
  | .frz o u => h.get? a = some o ∧ ObjOk H h a u
  | .tbl ps => h.get? a = some { cls := .none, data := .fields ps }
  | .met f x => h.get? a = some (PySem.W.methodObj (.ref f) (.ref x))
  | .ext φ => φ h ∧ (∃ o, h.get? a = some o) ∧ ∀ h1 h2 : Heap, φ h1 → (∀ o, h1.get? a = some o → h2.get? a = some o) → φ h2
/-- the abstract heap is held -/
noncomputable def HOk (H : Hp) (h : Heap) : Prop := ∀ a o, H a = some o → ObjOk P w H h a o
end

section
variable {P : Program} {w : World} {H H' : Hp} {h h' : Heap} {a : Addr} {o : HO}
theorem ObjOk.lt (x : ObjOk P w H h a o) : a < h.objs.size := by
  cases o with
  | lst xs => obtain ⟨_, _, _, _, e⟩ := x; exact Heap.lt_size e
  | tup xs => obtain ⟨_, _, _, p⟩ := x; exact p.lt
  | dK kvs => obtain ⟨_, _, _, _, o, _, _, e, _⟩ := x; exact Heap.lt_size e
  | dT kvs => obtain ⟨_, _, _, _, o, _, _, e, _⟩ := x; exact Heap.lt_size e
  | set S n => obtain ⟨o, _, _, _, e, _⟩ := x; exact Heap.lt_size e
  | ins C dx fs => obtain ⟨_, _, _, e, _⟩ := x; exact Heap.lt_size e
  | own y => obtain ⟨_, e⟩ := x; exact Heap.lt_size e
  | xd fs => obtain ⟨_, ⟨_, _, _, e, _⟩, _⟩ := x; exact Heap.lt_size e
  | rng lo hi => obtain ⟨_, _, _, e⟩ := x; exact Heap.lt_size e
  | frz ob u => obtain ⟨e, _⟩ := x; exact Heap.lt_size e
  | tbl ps => exact Heap.lt_size (show h.get? a = some _ from x)
  | met f y => exact Heap.lt_size (show h.get? a = some _ from x)
  | ext φ => obtain ⟨_, ⟨_, e⟩, _⟩ := x; exact Heap.lt_size e
theorem Paired.mapP {α β : Type} {F G : α → β → Prop} : ∀ {l₁ : List α} {l₂ : List β}, Paired F l₁ l₂ → (∀ a b, F a b → G a b) → Paired G l₁ l₂
  | _, _, .nil, _ => .nil
  | _, _, .cons r t, f => .cons (f _ _ r) (Paired.mapP t f)
/-- what an object's description leans on: its own object, its own dict, the tuples -/
theorem ObjOk.stay (x : ObjOk P w H h a o) (k : ∀ b u, (b = a ∨ H b = some (.own a)) → h.get? b = some u → h'.get? b = some u)
    (ho : ∀ b, H b = some (.own a) → H' b = some (.own a)) (ht : ∀ b xs, H b = some (.tup xs) → H' b = some (.tup xs)) : ObjOk P w H' h' a o := by
  induction o with
  | lst xs => obtain ⟨z, its, n, r, e⟩ := x; exact ⟨z, its, n, r, k _ _ (.inl rfl) e⟩
  | tup xs => obtain ⟨z, its, r, ob, e, c⟩ := x; exact ⟨z, its, r, ob, k _ _ (.inl rfl) e, c⟩
  | dK kvs => obtain ⟨z, y, vs, r, ob, es, ep, e, c⟩ := x; exact ⟨z, y, vs, r, ob, es, ep, k _ _ (.inl rfl) e, c⟩
  | dT kvs =>
    obtain ⟨z, y, xs, r, ob, es, ep, e, c⟩ := x
    exact ⟨z, y, xs, Paired.mapP r fun p q z => ⟨z.1, ht _ _ z.2.1, z.2.2⟩, ob, es, ep, k _ _ (.inl rfl) e, c⟩
  | set S n => obtain ⟨ob, es, ep, t, e, c⟩ := x; exact ⟨ob, es, ep, t, k _ _ (.inl rfl) e, c⟩
  | ins C dx fs =>
    obtain ⟨d, z, ne, e, mA, ⟨od, es, ep, e2, c⟩, r⟩ := x
    exact ⟨ho _ d, z, ne, k _ _ (.inl rfl) e, mA, ⟨od, es, ep, k _ _ (.inr d) e2, c⟩, r⟩
  | own y => obtain ⟨ob, e⟩ := x; exact ⟨ob, k _ _ (.inl rfl) e⟩
  | xd fs => obtain ⟨mA, ⟨od, es, ep, e, c⟩, r⟩ := x; exact ⟨mA, ⟨od, es, ep, k _ _ (.inl rfl) e, c⟩, r⟩
  | rng lo hi => obtain ⟨t, u, v, e⟩ := x; exact ⟨t, u, v, k _ _ (.inl rfl) e⟩
  | frz ob u ih => obtain ⟨e, q⟩ := x; exact ⟨k _ _ (.inl rfl) e, ih q⟩
  | tbl ps =>
    have e : h.get? a = some { cls := .none, data := .fields ps } := x
    show h'.get? a = some { cls := .none, data := .fields ps }
    exact k a _ (.inl rfl) e
  | met f y =>
    have e : h.get? a = some (PySem.W.methodObj (.ref f) (.ref y)) := x
    show h'.get? a = some (PySem.W.methodObj (.ref f) (.ref y))
    exact k a _ (.inl rfl) e
  | ext φ => obtain ⟨p, ⟨o, e⟩, st⟩ := x; exact ⟨st _ _ p fun o q => k _ _ (.inl rfl) q, ⟨o, k _ _ (.inl rfl) e⟩, st⟩
theorem HOk.lt (x : HOk P w H h) (e : H a = some o) : a < h.objs.size := (x a o e).lt
theorem HOk.fresh (x : HOk P w H h) (e : h.objs.size ≤ a) : H a = none := by
  cases q : H a with
  | none => rfl
  | some u => exact absurd (Nat.lt_of_lt_of_le (x.lt q) e) (Nat.lt_irrefl _)
/-- every object of the heap is kept -/
theorem HOk.kept (x : HOk P w H h) (k : ∀ b u, h.get? b = some u → h'.get? b = some u) : HOk P w H h' := fun a o e =>
  (x a o e).stay (fun b u _ q => k b u q) (fun _ q => q) fun _ _ q => q
/-- a new object is laid and tracked -/
theorem HOk.laid (x : HOk P w H h) (k : ∀ b u, h.get? b = some u → h'.get? b = some u) (hp : h.objs.size ≤ a) (new : ObjOk P w (upd H a o) h' a o) : HOk P w (upd H a o) h' := fun b u e => by
  have hn := x.fresh hp
  by_cases hb : b = a
  · subst hb; rw [upd_same] at e; cases e; exact new
  · rw [upd_ne hb] at e
    exact (x b u e).stay (fun c v _ q => k c v q) (fun c q => by rw [upd_ne (ne_of_none q hn)]; exact q) fun c xs q => by rw [upd_ne (ne_of_none q hn)]; exact q
end

/-- what may be read as u: it is u, or a known u -/
noncomputable def Rd (H : Hp) (a : Addr) (u : HO) : Prop := H a = some u ∨ ∃ o, H a = some (.frz o u)
theorem Rd.ok {P : Program} {w : World} {H : Hp} {h : Heap} {a : Addr} {u : HO} (r : Rd H a u) (x : HOk P w H h) : ObjOk P w H h a u := by
  rcases r with r | ⟨o, r⟩
  · exact x a u r
  · obtain ⟨_, q⟩ := x a _ r
    exact q
/-- what may be written -/
noncomputable def Mut : Option HO → Prop
  | some (.lst _) => True
  | some (.dK _) => True
  | some (.dT _) => True
  | some (.set _ _) => True
  | some (.ins _ _ _) => True
  | some (.ext _) => True
  | _ => False
section
variable {P : Program} {w : World} {H : Hp} {h h' : Heap} {x e : Addr} {o' : HO}
/-- the object at e is changed: x itself, or the dict of the instance x -/
theorem HOk.write (ok : HOk P w H h) (mu : Mut (H x)) (he : e = x ∨ H e = some (.own x)) (k : ∀ b u, b ≠ e → h.get? b = some u → h'.get? b = some u) (heo : ∃ u, h'.get? e = some u)
    (new : ObjOk P w (upd H x o') h' x o') : HOk P w (upd H x o') h' := fun b u q => by
  have nown : ∀ c y, H c = some (.own y) → c ≠ x := fun c y r z => by subst z; rw [r] at mu; exact mu
  have ntup : ∀ c xs, H c = some (.tup xs) → c ≠ x := fun c xs r z => by subst z; rw [r] at mu; exact mu
  by_cases hb : b = x
  · subst hb; rw [upd_same] at q; cases q; exact new
  · rw [upd_ne hb] at q
    by_cases hbe : b = e
    · have q' : H b = some (.own x) := by
        rcases he with z | z
        · exact absurd (hbe.trans z) hb
        · rw [hbe]; exact z
      rw [q] at q'; cases q'
      obtain ⟨v, hv⟩ := heo
      exact ⟨v, by rw [hbe]; exact hv⟩
    · refine (ok b u q).stay (fun c v hc r => k c v ?_ r) (fun c r => by rw [upd_ne (nown c b r)]; exact r) fun c xs r => by rw [upd_ne (ntup c xs r)]; exact r
      rcases hc with rfl | hc
      · exact hbe
      · rintro rfl
        rcases he with z | z
        · exact nown c b hc z
        · rw [hc] at z; cases z; exact hb rfl
end

/-! ### kept unless tracked; of the frames at fs (the callers') the slots may change (an exception that passes writes there); of the records at ex (iterators) nothing is said -/
structure Un (fs ex : List Addr) (H H' : Hp) (h h' : Heap) : Prop where
  keep : ∀ b o, h.get? b = some o → H b = none → b ∉ fs → b ∉ ex → h'.get? b = some o
  slot : ∀ b o, h.get? b = some o → H b = none → b ∈ fs → b ∉ ex → ∃ sl, h'.get? b = some { o with slots := sl }
  free : ∀ b o, h.get? b = some o → H b = none → b ∉ ex → H' b = none
  there : ∀ b o, h.get? b = some o → b ∉ ex → ∃ o', h'.get? b = some o'
  tups : ∀ b xs, H b = some (.tup xs) → H' b = some (.tup xs)
  frzs : ∀ b o u, H b = some (.frz o u) → H' b = some (.frz o u)
  tbls : ∀ b ps, H b = some (.tbl ps) → ∃ more, H' b = some (.tbl (ps ++ more))
section
variable {fs fs' ex ex' : List Addr} {H H1 H2 : Hp} {h h1 h2 h' : Heap} {a x e : Addr} {o : HO}
theorem Un.any (u : Un fs ex H H1 h h1) {b : Addr} {ob : Obj} (q : h.get? b = some ob) (n : H b = none) (hx : b ∉ ex) : ∃ sl, h1.get? b = some { ob with slots := sl } := by
  by_cases hb : b ∈ fs
  · exact u.slot b ob q n hb hx
  · exact ⟨ob.slots, u.keep b ob q n hb hx⟩
theorem Un.kept (k : ∀ b u, h.get? b = some u → h'.get? b = some u) : Un fs ex H H h h' :=
  ⟨fun b ob q _ _ _ => k b ob q, fun b ob q _ _ _ => ⟨ob.slots, k b ob q⟩, fun _ _ _ n _ => n, fun b ob q _ => ⟨ob, k b ob q⟩, fun _ _ q => q, fun _ _ _ q => q, fun _ ps q => ⟨#[], by rw [q]; simp⟩⟩
theorem Un.refl : Un fs ex H H h h := Un.kept fun _ _ q => q
theorem Un.laid (k : ∀ b u, h.get? b = some u → h'.get? b = some u) (hp : h.objs.size ≤ a) (hn : H a = none) : Un fs ex H (upd H a o) h h' where
  keep := fun b u q _ _ _ => k b u q
  slot := fun b u q _ _ _ => ⟨u.slots, k b u q⟩
  free := fun b u q n _ => by rw [upd_ne (Nat.ne_of_lt (Nat.lt_of_lt_of_le (Heap.lt_size q) hp))]; exact n
  there := fun b u q _ => ⟨u, k b u q⟩
  tups := fun b xs q => by rw [upd_ne (ne_of_none q hn)]; exact q
  frzs := fun b u xs q => by rw [upd_ne (ne_of_none q hn)]; exact q
  tbls := fun b ps q => ⟨#[], by rw [upd_ne (ne_of_none q hn), q]; simp⟩
theorem Un.write (mu : Mut (H x)) (he : e = x ∨ H e = some (.own x)) (k : ∀ b u, b ≠ e → h.get? b = some u → h'.get? b = some u) (heo : ∃ u, h'.get? e = some u) : Un fs ex H (upd H x o) h h' := by
  have hx : ∀ b, H b = none → b ≠ x := fun b n z => by subst z; rw [n] at mu; exact mu
  have hb : ∀ b, H b = none → b ≠ e := fun b n z => by
    subst z
    rcases he with r | r
    · exact hx b n r
    · rw [n] at r; cases r
  have hm : ∀ b u, H b = some u → ¬ Mut (some u) → b ≠ x := fun b u q nm z => by subst z; rw [q] at mu; exact nm mu
  refine ⟨fun b u q n _ _ => k b u (hb b n) q, fun b u q n _ _ => ⟨u.slots, k b u (hb b n) q⟩, fun b u q n _ => by rw [upd_ne (hx b n)]; exact n, fun b u q _ => ?_,
    fun b xs q => by rw [upd_ne (hm b _ q fun z => z)]; exact q, fun b u xs q => by rw [upd_ne (hm b _ q fun z => z)]; exact q, fun b ps q => ⟨#[], by rw [upd_ne (hm b _ q fun z => z), q]; simp⟩⟩
  by_cases hbe : b = e
  · subst hbe; exact heo
  · exact ⟨u, k b u hbe q⟩
end

/-! ### the heap without what is tracked -/
noncomputable def trk (h : Heap) (H : Hp) : List Addr := (List.range h.objs.size).filter fun a => (H a).isSome
noncomputable def hidT (h : Heap) (H : Hp) : Heap := PySem.W.hideAll h (trk h H)
theorem hidT_size (h : Heap) (H : Hp) : (hidT h H).objs.size = h.objs.size := PySem.W.hideAll_size _ _
theorem hidT_get {h : Heap} {H : Hp} {b : Addr} {o : Obj} (e : h.get? b = some o) (n : H b = none) : (hidT h H).get? b = some o :=
  PySem.W.hideAll_get _ e fun hm => by
    have q : (H b).isSome = true := (List.mem_filter.mp hm).2
    rw [n] at q; simp at q
theorem of_hidT {h : Heap} {H : Hp} {b : Addr} {o : Obj} (e : (hidT h H).get? b = some o) : h.get? b = some o ∧ H b = none := by
  have e' : h.get? b = some o := PySem.W.of_hideAll (trk h H) e
  refine ⟨e', ?_⟩
  cases q : H b with
  | none => rfl
  | some x =>
    have hm : b ∈ trk h H := List.mem_filter.mpr ⟨List.mem_range.mpr (Heap.lt_size e'), by simp [q]⟩
    have z : (hidT h H).get? b = none := PySem.W.hideAll_none (trk h H) hm
    rw [z] at e; cases e

/-! ### OpenK's ledger, filled with every new object but one -/
noncomputable def allNews (g h : Heap) (L : Addr) : List (Addr × Obj) := (List.range h.objs.size).filterMap fun a => if a = L ∨ (g.get? a).isSome = true then none else (h.get? a).map fun o => (a, o)
noncomputable def rest (g h : Heap) (L d : Addr) : List (Addr × Obj) := (allNews g h L).filter fun p => decide (p.1 ≠ d)
end L2

namespace L2
open PySem PySem.Spec PyProof.Rows

/-- the module's facts, over the base: the heap at the law's entry without what is tracked there -/
structure Mod (K : PySem.W.Frag) (mg : Str → Option Value) (base : Heap) : Prop where
  kin : K.In base
  glob : base.Ns mainGlobals mg
  blt : ∃ mb, base.Ns builtinsNs mb ∧ ∀ x : Str, x ≠ "__name__" → mb x = bootBuiltins x
  nolimit : base.NoLimit

/-- the context: a def's body (or a comprehension's block) running. base: fixed through the whole law; s₀, H₀: the entry; outer: the frames whose slots others may change (a def's callers); stack: all frames that run;
   ex: iterators that were made ahead of the entry and are walked here (a comprehension's); fn: the names whose cells were made at the entry (a def: all; a comprehension's block: its own); calm: not within an except suite; pn: pins that every state bears; xe: what is wanted of an exception that leaves the code -/
structure Cx where
  prog : Program
  w : World
  K : PySem.W.Frag
  mg : Str → Option Value
  base : Heap
  A : Around
  N : List Str
  s₀ : Shared
  H₀ : Hp
  env : Env
  outer : List Env
  stack : List Env
  ex : List Addr
  fn : Str → Bool
  calm : Bool
  pn : List (Addr × Obj)
  xe : Value → Shared → Prop
/-- the callers' frames -/
noncomputable def frs (l : List Env) : List Addr := l.filterMap (·.frame)
noncomputable abbrev Cx.fs (X : Cx) : List Addr := frs X.outer

noncomputable def Vis (sc : Scope) (x : Str) : Prop := sc.names.lookup x = some .local ∨ sc.names.lookup x = some .cell ∨ sc.names.lookup x = some .free
noncomputable def Loc (sc : Scope) (x : Str) : Prop := sc.names.lookup x = some .local ∨ sc.names.lookup x = some .cell
noncomputable def Look (env : Env) (h : Heap) (m : Str → Option Value) (x : Str) (u : Value) : Prop :=
  (env.kindOf x = some .local ∧ m x = some u) ∨ ((env.kindOf x = some .cell ∨ env.kindOf x = some .free) ∧ ∃ c, env.cells.lookup x = some c ∧ h.IsCell c (some u))

structure Cx.Ok (X : Cx) : Prop where
  mod : Mod X.K X.mg X.base
  kind : X.env.scope.kind = .function
  glob : X.env.globals = mainGlobals
  blt : X.env.builtins = builtinsNs
  above : X.s₀.heap.objs.size ≤ X.env.locals
  inj : ∀ x y c, X.env.cells.lookup x = some c → X.env.cells.lookup y = some c → x = y
  has : ∀ x, (X.env.kindOf x = some .cell ∨ X.env.kindOf x = some .free) → ∃ c, X.env.cells.lookup x = some c
  cab : ∀ x c, X.fn x = true → X.env.cells.lookup x = some c → X.s₀.heap.objs.size ≤ c
  hd : X.calm = true → X.A.handled = none
  frames : X.A.frames = some X.stack
  stk : X.stack = X.outer ∨ (X.stack = X.env :: X.outer ∧ X.env.frame = some X.env.locals)
  exf : ∀ b ∈ X.ex, b ≠ X.env.locals ∧ ∀ x c, X.env.cells.lookup x = some c → c ≠ b
  bs : ∀ b o, X.base.get? b = some o → X.s₀.heap.get? b = some o ∧ X.H₀ b = none
  bsz : X.base.objs.size ≤ X.s₀.heap.objs.size
  noex : ∀ b o, X.base.get? b = some o → b ∉ X.ex
  exfs : ∀ b ∈ X.ex, b ∉ X.fs
  funs : X.s₀.heap.FunFrames X.base X.outer
  frf : ∀ b ∈ X.fs, X.H₀ b = none

structure Inv (X : Cx) (pins : List (Addr × Obj)) (σ : List (Option V)) (H : Hp) (s : Shared) : Prop where
  ok : X.Ok
  os : s.os = X.s₀.os
  bare : AllBare s.gens
  base : Un X.fs X.ex X.H₀ H X.s₀.heap s.heap
  loc : ∃ m, s.heap.Ns X.env.locals m ∧ ∀ (i : Nat) (x : Str) (v : V), X.N[i]? = some x → σ[i]? = some (some v) → Vis X.env.scope x → ∃ u, RelV v u ∧ Look X.env s.heap m x u
  cell : ∀ x c, X.env.cells.lookup x = some c → ∃ v, s.heap.IsCell c v
  free : H X.env.locals = none
  freeC : ∀ x c, X.env.cells.lookup x = some c → H c = none
  pin : ∀ p ∈ X.pn ++ pins, s.heap.get? p.1 = some p.2 ∧ H p.1 = none ∧ p.1 ≠ X.env.locals ∧ p.1 ∉ X.fs ∧ ∀ v, p.2.data ≠ .cell v
  hok : HOk X.prog X.w H s.heap
  len : σ.length = X.N.length

section
variable {X : Cx} {pins : List (Addr × Obj)} {σ : List (Option V)} {H H' : Hp} {s : Shared} {h' : Heap}

theorem Cx.Ok.nofr (ok : X.Ok) {b : Addr} {o : Obj} (e : X.base.get? b = some o) : b ∉ X.fs := fun hb => by
  have := (ok.funs.mem hb).1
  rw [e] at this; cases this
theorem Inv.bs (I : Inv X pins σ H s) : ∀ b o, X.base.get? b = some o → s.heap.get? b = some o ∧ H b = none := fun b o e =>
  ⟨I.base.keep b o (I.ok.bs b o e).1 (I.ok.bs b o e).2 (I.ok.nofr e) (I.ok.noex b o e), I.base.free b o (I.ok.bs b o e).1 (I.ok.bs b o e).2 (I.ok.noex b o e)⟩
theorem Inv.bk (I : Inv X pins σ H s) : ∀ b o, X.base.get? b = some o → s.heap.get? b = some o := fun b o e => (I.bs b o e).1
theorem Inv.mod (I : Inv X pins σ H s) : Mod X.K X.mg X.base := I.ok.mod
theorem Inv.kIn (I : Inv X pins σ H s) : X.K.In s.heap := I.ok.mod.kin.keeps I.bk
/-- the frame over the base: for OpenK's rules (K.In X.base is I.mod.kin) -/
theorem Inv.fr (I : Inv X pins σ H s) : ∃ m, Fr X.base X.env.locals s.heap m :=
  let ⟨m, hn, _⟩ := I.loc
  ⟨m, hn, I.bk, Nat.le_trans I.ok.bsz I.ok.above⟩
theorem Inv.lt (I : Inv X pins σ H s) : X.env.locals < s.heap.objs.size := let ⟨_, hn, _⟩ := I.loc; hn.lt
theorem Inv.sz (I : Inv X pins σ H s) : X.s₀.heap.objs.size ≤ s.heap.objs.size := Nat.le_trans I.ok.above (Nat.le_of_lt I.lt)
theorem Inv.nofs (I : Inv X pins σ H s) {a : Addr} (h : s.heap.objs.size ≤ a) : a ∉ X.fs := fun hb => by
  obtain ⟨_, o, ho, _⟩ := I.ok.funs.mem hb
  exact absurd (Nat.lt_of_lt_of_le (Heap.lt_size ho) (Nat.le_trans I.sz h)) (Nat.lt_irrefl _)
theorem Inv.cne (I : Inv X pins σ H s) : ∀ x c, X.env.cells.lookup x = some c → c ≠ X.env.locals := fun x c e z => by
  obtain ⟨v, o, ho, hd⟩ := I.cell x c e
  obtain ⟨m, ⟨o', es, ep, ho', hd', _⟩, _⟩ := I.loc
  rw [z, ho'] at ho; cases ho; rw [hd'] at hd; cases hd
theorem Inv.funs (I : Inv X pins σ H s) : s.heap.FunFrames X.base X.outer := by
  have all : ∀ (l : List Env), (∀ b ∈ frs l, b ∈ X.fs) → X.s₀.heap.FunFrames X.base l → s.heap.FunFrames X.base l := by
    intro l
    induction l with
    | nil => intro _ _; trivial
    | cons env r ih =>
      intro hs hl
      obtain ⟨hk, ⟨L, o, hf, hn, ho, hd⟩, hr⟩ := hl
      have hL : L ∈ X.fs := hs L (by unfold frs; rw [List.filterMap_cons, hf]; exact List.mem_cons_self)
      obtain ⟨sl, e⟩ := I.base.slot L o ho (I.ok.frf L hL) hL fun z => I.ok.exfs L z hL
      exact ⟨hk, ⟨L, _, hf, hn, e, hd⟩, ih (fun b hb => hs b (by unfold frs; rw [List.filterMap_cons, hf]; exact List.mem_cons_of_mem _ hb)) hr⟩
  exact all X.outer (fun _ hb => hb) I.ok.funs

/-- the frames that run, for a call -/
theorem Inv.stack (I : Inv X pins σ H s) : s.heap.FunFrames X.base X.stack := by
  rcases I.ok.stk with e | ⟨e, hf⟩
  · rw [e]; exact I.funs
  · rw [e]
    obtain ⟨m, hn, _⟩ := I.loc
    refine .cons (by rw [I.ok.kind]; decide) hf hn ?_ I.funs
    exact Heap.get?_none_of_le (Nat.le_trans I.ok.bsz I.ok.above)
theorem Inv.stkSub (I : Inv X pins σ H s) : ∀ b ∈ frs X.stack, b ∈ X.env.locals :: X.fs := fun b hb => by
  rcases I.ok.stk with e | ⟨e, hf⟩
  · rw [e] at hb; exact List.mem_cons_of_mem _ hb
  · rw [e] at hb
    unfold frs at hb
    rw [List.filterMap_cons, hf] at hb
    exact hb
theorem Inv.stkFree (I : Inv X pins σ H s) : ∀ b ∈ frs X.stack, H b = none := fun b hb => by
  rcases List.mem_cons.mp (I.stkSub b hb) with e | hb
  · rw [e]; exact I.free
  · obtain ⟨_, o, ho, _⟩ := I.ok.funs.mem hb
    exact I.base.free b o ho (I.ok.frf b hb) fun z => I.ok.exfs b z hb

/-- THE STEP: the untracked objects but the frame and the records at ch are kept (the callers' frames up to slots), the frame's map is kept, the new abstract heap is held -/
theorem Inv.step {g' : Array GenState} {t' : Nat} {d' : Drawn} {ch : List Addr} (I : Inv X pins σ H s)
    (hch : ∀ b ∈ ch, (b ∈ X.ex ∨ X.s₀.heap.objs.size ≤ b) ∧ b ≠ X.env.locals ∧ (∀ x c, X.env.cells.lookup x = some c → c ≠ b) ∧ ∀ p ∈ X.pn ++ pins, p.1 ≠ b)
    (keep : ∀ b o, b ≠ X.env.locals → b ∉ X.fs → b ∉ ch → s.heap.get? b = some o → H b = none → h'.get? b = some o)
    (slot : ∀ b o, b ≠ X.env.locals → b ∈ X.fs → b ∉ ch → s.heap.get? b = some o → H b = none → ∃ sl, h'.get? b = some { o with slots := sl }) (free : ∀ b o, b ∉ ch → s.heap.get? b = some o → H b = none → H' b = none)
    (there : ∀ b o, b ∉ ch → s.heap.get? b = some o → ∃ o', h'.get? b = some o')
    (tups : ∀ b xs, H b = some (.tup xs) → H' b = some (.tup xs)) (frzs : ∀ b o u, H b = some (.frz o u) → H' b = some (.frz o u)) (tbls : ∀ b ps, H b = some (.tbl ps) → ∃ more, H' b = some (.tbl (ps ++ more)))
    (ns : ∀ m, s.heap.Ns X.env.locals m → h'.Ns X.env.locals m) (hok : HOk X.prog X.w H' h') (hg : AllBare g') :
    Inv X pins σ H' { s with heap := h', gens := g', drawn := d', toks := t' } := by
  have neL : ∀ b o, X.s₀.heap.get? b = some o → b ≠ X.env.locals := fun b o e => Nat.ne_of_lt (Nat.lt_of_lt_of_le (Heap.lt_size e) I.ok.above)
  have neC : ∀ b o, X.s₀.heap.get? b = some o → b ∉ X.ex → b ∉ ch := fun b o e hx hb => by
    rcases (hch b hb).1 with z | z
    · exact hx z
    · exact absurd (Nat.lt_of_lt_of_le (Heap.lt_size e) z) (Nat.lt_irrefl _)
  have cellK : ∀ x c, X.env.cells.lookup x = some c → ∀ v, s.heap.IsCell c v → h'.IsCell c v := fun x c e v ⟨o, ho, hd⟩ => by
    have nch : c ∉ ch := fun z => (hch c z).2.2.1 x c e rfl
    by_cases hc : c ∈ X.fs
    · obtain ⟨sl, q⟩ := slot c o (I.cne x c e) hc nch ho (I.freeC x c e)
      exact ⟨_, q, hd⟩
    · exact ⟨o, keep c o (I.cne x c e) hc nch ho (I.freeC x c e), hd⟩
  refine ⟨I.ok, I.os, hg, ⟨fun b o e n hb hx => ?_, fun b o e n hb hx => ?_, fun b o e n hx => ?_, fun b o e hx => ?_, fun b xs e => tups b xs (I.base.tups b xs e), fun b o xs e => frzs b o xs (I.base.frzs b o xs e), fun b ps e => ?_⟩, ?_, fun x c e => ?_, ?_, fun x c e => ?_, fun p hp => ?_, hok, I.len⟩
  · exact keep b o (neL b o e) hb (neC b o e hx) (I.base.keep b o e n hb hx) (I.base.free b o e n hx)
  · obtain ⟨sl, e1⟩ := I.base.slot b o e n hb hx
    obtain ⟨sl', e2⟩ := slot b _ (neL b o e) hb (neC b o e hx) e1 (I.base.free b o e n hx)
    exact ⟨sl', e2⟩
  · obtain ⟨o', e1⟩ := I.base.there b o e hx
    exact free b o' (neC b o e hx) e1 (I.base.free b o e n hx)
  · obtain ⟨o', e1⟩ := I.base.there b o e hx
    exact there b o' (neC b o e hx) e1
  · obtain ⟨m1, e1⟩ := I.base.tbls b ps e
    obtain ⟨m2, e2⟩ := tbls b _ e1
    exact ⟨m1 ++ m2, by rw [e2, Array.append_assoc]⟩
  · obtain ⟨m, hn, hl⟩ := I.loc
    refine ⟨m, ns m hn, fun i x v e1 e2 e3 => ?_⟩
    obtain ⟨u, r, l⟩ := hl i x v e1 e2 e3
    refine ⟨u, r, ?_⟩
    rcases l with l | ⟨k, c, e, z⟩
    · exact .inl l
    · exact .inr ⟨k, c, e, cellK x c e _ z⟩
  · obtain ⟨v, z⟩ := I.cell x c e
    exact ⟨v, cellK x c e v z⟩
  · obtain ⟨m, ⟨o, _, _, ho, _⟩, _⟩ := I.loc
    exact free _ o (fun z => (hch _ z).2.1 rfl) ho I.free
  · obtain ⟨v, o, ho, hd⟩ := I.cell x c e
    exact free c o (fun z => (hch c z).2.2.1 x c e rfl) ho (I.freeC x c e)
  · obtain ⟨e, n, ne, nf, d⟩ := I.pin p hp
    have nch : p.1 ∉ ch := fun z => (hch p.1 z).2.2.2 p hp rfl
    exact ⟨keep p.1 p.2 ne nf nch e n, free p.1 p.2 nch e n, ne, nf, d⟩
/-- .. where the frame's own object is kept too -/
theorem Inv.un {t' : Nat} (I : Inv X pins σ H s) (u : Un X.fs [] H H' s.heap h') (hok : HOk X.prog X.w H' h') : Inv X pins σ H' { s with heap := h', toks := t' } := by
  obtain ⟨m, ⟨o, es, ep, ho, r⟩, _⟩ := id I.loc
  obtain ⟨sl, hL⟩ := u.any ho I.free (by simp)
  exact I.step (g' := s.gens) (d' := s.drawn) (ch := []) (fun _ z => nomatch z) (fun b o _ hb _ e n => u.keep b o e n hb (by simp)) (fun b o _ hb _ e n => u.slot b o e n hb (by simp)) (fun b o _ e n => u.free b o e n (by simp)) (fun b o _ e => u.there b o e (by simp)) u.tups u.frzs u.tbls (fun m' hm => by
    obtain ⟨o', es', ep', ho', r'⟩ := hm
    rw [ho] at ho'; cases ho'
    exact ⟨_, es', ep', hL, r'⟩) hok I.bare
/-- behind a call (or a comprehension's block): the slots of this frame may have changed too, the records at ch may have turned -/
theorem Inv.call {g' : Array GenState} {t' : Nat} {d' : Drawn} {ch : List Addr} (I : Inv X pins σ H s) (u : Un (frs X.stack) ch H H' s.heap h') (hok : HOk X.prog X.w H' h') (hg : AllBare g')
    (hch : ∀ b ∈ ch, (b ∈ X.ex ∨ X.s₀.heap.objs.size ≤ b) ∧ b ≠ X.env.locals ∧ (∀ x c, X.env.cells.lookup x = some c → c ≠ b) ∧ ∀ p ∈ X.pn ++ pins, p.1 ≠ b) :
    Inv X pins σ H' { s with heap := h', gens := g', drawn := d', toks := t' } := by
  obtain ⟨m, ⟨o, es, ep, ho, r⟩, _⟩ := id I.loc
  obtain ⟨sl, hL⟩ := u.any ho I.free fun z => (hch _ z).2.1 rfl
  exact I.step (ch := ch) hch (fun b o hL hb hc e n => u.keep b o e n (fun z => (List.mem_cons.mp (I.stkSub b z)).elim hL hb) hc) (fun b o _ _ hc e n => u.any e n hc) (fun b o hc e n => u.free b o e n hc) (fun b o hc e => u.there b o e hc) u.tups u.frzs u.tbls (fun m' hm => by
    obtain ⟨o', es', ep', ho', r'⟩ := hm
    rw [ho] at ho'; cases ho'
    exact ⟨_, es', ep', hL, r'⟩) hok hg
/-- an untracked record of ours (an iterator) has turned -/
theorem Inv.turned {t' : Nat} {it : Addr} (I : Inv X pins σ H s) (k : ∀ b o, b ≠ it → s.heap.get? b = some o → h'.get? b = some o) (hn : H it = none) (hL : it ≠ X.env.locals)
    (h1 : it ∈ X.ex ∨ X.s₀.heap.objs.size ≤ it) (h2 : ∀ x c, X.env.cells.lookup x = some c → c ≠ it) (h3 : ∀ p ∈ X.pn ++ pins, p.1 ≠ it) : Inv X pins σ H { s with heap := h', toks := t' } := by
  have nit : ∀ b u, H b = some u → b ≠ it := fun b u e z => by rw [z, hn] at e; cases e
  refine I.step (g' := s.gens) (d' := s.drawn) (ch := [it]) (fun b hb => ?_) (fun b o _ _ hc e _ => k b o (fun z => hc (by simp [z])) e) (fun b o _ _ hc e _ => ⟨o.slots, k b o (fun z => hc (by simp [z])) e⟩) (fun _ _ _ _ n => n)
    (fun b o hc e => ⟨o, k b o (fun z => hc (by simp [z])) e⟩) (fun _ _ e => e) (fun _ _ _ e => e) (fun b ps e => ⟨#[], by rw [e]; simp⟩) (fun m hm => ?_) (fun b u e => ?_) I.bare
  · have e : b = it := by simpa using hb
    subst e
    exact ⟨h1, hL, h2, h3⟩
  · obtain ⟨o, es, ep, ho, r⟩ := hm
    exact ⟨o, es, ep, k _ o (Ne.symm hL) ho, r⟩
  · refine (I.hok b u e).stay (fun c v hc q => k c v ?_ q) (fun _ q => q) fun _ _ q => q
    rcases hc with z | z
    · rw [z]; exact nit b u e
    · exact nit c _ z
theorem Inv.tok (I : Inv X pins σ H s) (t : Nat) : Inv X pins σ H { s with toks := t } := I.un (h' := s.heap) (t' := t) Un.refl I.hok
/-- all objects kept -/
theorem Inv.kept {t' : Nat} (I : Inv X pins σ H s) (k : ∀ b u, s.heap.get? b = some u → h'.get? b = some u) : Inv X pins σ H { s with heap := h', toks := t' } := I.un (Un.kept k) (I.hok.kept k)
/-- a new object laid and tracked -/
theorem Inv.laid {a : Addr} {o : HO} {t' : Nat} (I : Inv X pins σ H s) (k : ∀ b u, s.heap.get? b = some u → h'.get? b = some u) (hp : s.heap.objs.size ≤ a) (new : ObjOk X.prog X.w (upd H a o) h' a o) :
    Inv X pins σ (upd H a o) { s with heap := h', toks := t' } := I.un (Un.laid k hp (I.hok.fresh hp)) (I.hok.laid k hp new)
/-- an object written -/
theorem Inv.write {x e : Addr} {o : HO} {t' : Nat} (I : Inv X pins σ H s) (mu : Mut (H x)) (he : e = x ∨ H e = some (.own x)) (k : ∀ b u, b ≠ e → s.heap.get? b = some u → h'.get? b = some u) (heo : ∃ u, h'.get? e = some u)
    (new : ObjOk X.prog X.w (upd H x o) h' x o) : Inv X pins σ (upd H x o) { s with heap := h', toks := t' } := I.un (Un.write mu he k heo) (I.hok.write mu he k heo new)
/-- forgetting slots, pins -/
theorem Inv.weak {σ' : List (Option V)} (I : Inv X pins σ H s) (hl : σ'.length = σ.length) (w : ∀ (i : Nat) v, σ'[i]? = some (some v) → σ[i]? = some (some v)) : Inv X pins σ' H s :=
  ⟨I.ok, I.os, I.bare, I.base, let ⟨m, hn, hl'⟩ := I.loc; ⟨m, hn, fun i x v e1 e2 e3 => hl' i x v e1 (w i v e2) e3⟩, I.cell, I.free, I.freeC, I.pin, I.hok, hl.trans I.len⟩
theorem Inv.pins_of {pins' : List (Addr × Obj)} (I : Inv X pins σ H s) (h : ∀ p ∈ pins', s.heap.get? p.1 = some p.2 ∧ H p.1 = none ∧ p.1 ≠ X.env.locals ∧ p.1 ∉ X.fs ∧ ∀ v, p.2.data ≠ .cell v) : Inv X pins' σ H s :=
  ⟨I.ok, I.os, I.bare, I.base, I.loc, I.cell, I.free, I.freeC, fun p hp => (List.mem_append.mp hp).elim (fun z => I.pin p (List.mem_append_left _ z)) (h p), I.hok, I.len⟩

theorem nodup_ix {N : List Str} (hN : N.Nodup) {i j : Nat} {x : Str} (a : N[i]? = some x) (b : N[j]? = some x) : i = j := by
  obtain ⟨h1, e1⟩ := List.getElem?_eq_some_iff.mp a
  obtain ⟨h2, e2⟩ := List.getElem?_eq_some_iff.mp b
  exact (List.getElem_inj hN).mp (e1.trans e2.symm)

/-- a name is stored; what changed -/
theorem store_ok2 {M : Model} {A : Around} {E : Value → Shared → Prop} {i : Nat} {x : Str} {v : V} {u : Value} {Q : Unit → Shared → Prop} (I : Inv X pins σ H s) (hN : X.N.Nodup) (hi : X.N[i]? = some x) (hx : Loc X.env.scope x) (r : RelV v u)
    (h : ∀ s', Inv X pins (σ.set i (some v)) H s' → (∃ a, Heap.SameBut a s.heap s'.heap ∧ (a = X.env.locals ∨ X.env.cells.lookup x = some a)) → Q () s') (hf : X.fn x = true ∨ X.env.scope.names.lookup x = some .local := by first | exact .inl rfl | exact .inr rfl | assumption) : wpAny M A (storeName X.env x u) Q E s := by
  obtain ⟨m, hn, hl⟩ := id I.loc
  have hcls : (X.env.scope.kind == .class || (X.env.scope.kind == .module && X.env.locals != X.env.globals)) = false := by rw [I.ok.kind]; rfl
  have hiσ : i < σ.length := by rw [I.len]; exact (List.getElem?_eq_some_iff.mp hi).1
  have cne := I.cne
  have tracked : ∀ {a : Addr} {h' : Heap}, (∃ o, s.heap.get? a = some o ∧ H a = none) → Heap.SameBut a s.heap h' → HOk X.prog X.w H h' := fun {a h'} ha hs b ob e => by
    obtain ⟨_, _, hfree⟩ := ha
    refine (I.hok b ob e).stay (fun c w' hc q => (hs.2 c ?_).trans q) (fun _ q => q) fun _ _ q => q
    rintro rfl
    rcases hc with rfl | hc
    · rw [hfree] at e; cases e
    · rw [hfree] at hc; cases hc
  rcases hx with hk | hk
  · refine wpAny_storeName_local hk hn (fun h' hn' hs => ?_) hcls
    obtain ⟨oL, _, _, hoL, _⟩ := id hn
    refine h _ ⟨I.ok, I.os, I.bare, ⟨fun b o e n hb hx => ?_, fun b o e n hb hx => ?_, I.base.free, fun b o e hx => ?_, I.base.tups, I.base.frzs, I.base.tbls⟩, ⟨_, hn', fun j y v' e1 e2 e3 => ?_⟩, fun y c e => ?_, I.free, I.freeC, fun p hp => ?_, tracked ⟨oL, hoL, I.free⟩ hs, by simpa using I.len⟩ ⟨_, hs, .inl rfl⟩
    · exact (hs.2 b (Nat.ne_of_lt (Nat.lt_of_lt_of_le (Heap.lt_size e) I.ok.above))).trans (I.base.keep b o e n hb hx)
    · obtain ⟨sl, e1⟩ := I.base.slot b o e n hb hx
      exact ⟨sl, (hs.2 b (Nat.ne_of_lt (Nat.lt_of_lt_of_le (Heap.lt_size e) I.ok.above))).trans e1⟩
    · obtain ⟨o', e1⟩ := I.base.there b o e hx
      exact ⟨o', (hs.2 b (Nat.ne_of_lt (Nat.lt_of_lt_of_le (Heap.lt_size e) I.ok.above))).trans e1⟩
    · by_cases hj : j = i
      · subst hj
        rw [hi] at e1; cases e1
        rw [List.getElem?_set_self hiσ] at e2
        cases e2
        exact ⟨u, r, .inl ⟨hk, by simp⟩⟩
      · rw [List.getElem?_set_ne (Ne.symm hj)] at e2
        obtain ⟨u', r', q⟩ := hl j y v' e1 e2 e3
        refine ⟨u', r', ?_⟩
        rcases q with ⟨k, e⟩ | ⟨k, c, e, z⟩
        · refine .inl ⟨k, ?_⟩
          have : y ≠ x := fun e => hj (nodup_ix hN e1 (e ▸ hi))
          simp [this, e]
        · exact .inr ⟨k, c, e, z.sameBut hs (cne y c e)⟩
    · obtain ⟨w', z⟩ := I.cell y c e
      exact ⟨w', z.sameBut hs (cne y c e)⟩
    · obtain ⟨e, n, ne, nf, d⟩ := I.pin p hp
      exact ⟨(hs.2 p.1 ne).trans e, n, ne, nf, d⟩
  · have hfn : X.fn x = true := by
      rcases hf with z | z
      · exact z
      · rw [z] at hk; cases hk
    obtain ⟨c, hc⟩ := I.ok.has x (.inl hk)
    obtain ⟨w', z⟩ := I.cell x c hc
    refine wpAny_storeName_cell I.ok.kind hk hc z (fun h' hc' hs => ?_)
    obtain ⟨oc, hoc, hocd⟩ := id z
    refine h { s with heap := h' } ⟨I.ok, I.os, I.bare, ⟨fun b o e n hb hx => ?_, fun b o e n hb hx => ?_, I.base.free, fun b o e hx => ?_, I.base.tups, I.base.frzs, I.base.tbls⟩, ⟨m, hn.sameBut hs (Ne.symm (cne x c hc)), fun j y v' e1 e2 e3 => ?_⟩, fun y c' e => ?_, I.free, I.freeC, fun p hp => ?_, tracked ⟨oc, hoc, I.freeC x c hc⟩ hs, by simpa using I.len⟩ ⟨c, hs, .inr hc⟩
    · exact (hs.2 b (Nat.ne_of_lt (Nat.lt_of_lt_of_le (Heap.lt_size e) (I.ok.cab x c hfn hc)))).trans (I.base.keep b o e n hb hx)
    · obtain ⟨sl, e1⟩ := I.base.slot b o e n hb hx
      exact ⟨sl, (hs.2 b (Nat.ne_of_lt (Nat.lt_of_lt_of_le (Heap.lt_size e) (I.ok.cab x c hfn hc)))).trans e1⟩
    · obtain ⟨o', e1⟩ := I.base.there b o e hx
      exact ⟨o', (hs.2 b (Nat.ne_of_lt (Nat.lt_of_lt_of_le (Heap.lt_size e) (I.ok.cab x c hfn hc)))).trans e1⟩
    · by_cases hj : j = i
      · subst hj
        rw [hi] at e1; cases e1
        rw [List.getElem?_set_self hiσ] at e2
        cases e2
        exact ⟨u, r, .inr ⟨.inl hk, c, hc, hc'⟩⟩
      · rw [List.getElem?_set_ne (Ne.symm hj)] at e2
        obtain ⟨u', r', q⟩ := hl j y v' e1 e2 e3
        refine ⟨u', r', ?_⟩
        rcases q with q | ⟨k, c', e, z'⟩
        · exact .inl q
        · refine .inr ⟨k, c', e, z'.sameBut hs ?_⟩
          rintro rfl
          exact hj (nodup_ix hN e1 (I.ok.inj _ _ _ e hc ▸ hi))
    · by_cases hcc : c' = c
      · subst hcc; exact ⟨_, hc'⟩
      · obtain ⟨w2, z2⟩ := I.cell y c' e
        exact ⟨w2, z2.sameBut hs hcc⟩
    · obtain ⟨e, n, ne, nf, d⟩ := I.pin p hp
      refine ⟨(hs.2 p.1 ?_).trans e, n, ne, nf, d⟩
      intro q
      rw [q, hoc] at e
      have q' : oc = p.2 := Option.some.inj e
      exact d w' (by rw [← q']; exact hocd)
theorem store_ok {M : Model} {A : Around} {E : Value → Shared → Prop} {i : Nat} {x : Str} {v : V} {u : Value} {Q : Unit → Shared → Prop} (I : Inv X pins σ H s) (hN : X.N.Nodup) (hi : X.N[i]? = some x) (hx : Loc X.env.scope x) (r : RelV v u)
    (h : ∀ s', Inv X pins (σ.set i (some v)) H s' → Q () s') (hf : X.fn x = true ∨ X.env.scope.names.lookup x = some .local := by first | exact .inl rfl | exact .inr rfl | assumption) : wpAny M A (storeName X.env x u) Q E s :=
  store_ok2 I hN hi hx r (fun s' I' _ => h s' I') hf
/-- behind a call or a block, the state as it is -/
theorem Inv.call' {s' : Shared} {ch : List Addr} (I : Inv X pins σ H s) (ho : s'.os = s.os) (u : Un (frs X.stack) ch H H' s.heap s'.heap) (hok : HOk X.prog X.w H' s'.heap) (hg : AllBare s'.gens)
    (hch : ∀ b ∈ ch, (b ∈ X.ex ∨ X.s₀.heap.objs.size ≤ b) ∧ b ≠ X.env.locals ∧ (∀ x c, X.env.cells.lookup x = some c → c ≠ b) ∧ ∀ p ∈ X.pn ++ pins, p.1 ≠ b) : Inv X pins σ H' s' := by
  obtain ⟨h', g', d', t', o'⟩ := s'
  have e : o' = s.os := ho
  subst e
  exact I.call (g' := g') (t' := t') (d' := d') u hok hg hch
end

/-! ### the judgements -/
/-- an exception: its class, its own dict's address (where it has one), the abstract heap behind it -/
noncomputable abbrev XK := Value → Option Addr → Hp → Prop
noncomputable abbrev St := List (Option V)
noncomputable abbrev VK := V → Hp → Prop
/-- an expression's reading; a test's; an argument list's -/
noncomputable abbrev TE := St → Hp → VK → Prop
noncomputable abbrev TT := St → Hp → (Bool → Hp → Prop) → Prop
noncomputable abbrev TA := St → Hp → (List V → Hp → Prop) → Prop
/-- what is wanted behind a statement -/
structure Ends where
  nx : St → Hp → Prop
  rt : VK
  bk : St → Hp → Prop := fun _ _ => False
  ct : St → Hp → Prop := fun _ _ => False
noncomputable abbrev TS := Ends → St → Hp → Prop

noncomputable def EP (X : Cx) (pins : List (Addr × Obj)) (σ : St) (Q : VK) (u : Value) (s' : Shared) : Prop := ∃ v H', Inv X pins σ H' s' ∧ RelV v u ∧ Q v H'
noncomputable def TP (X : Cx) (pins : List (Addr × Obj)) (σ : St) (Q : Bool → Hp → Prop) (b : Bool) (s' : Shared) : Prop := ∃ H', Inv X pins σ H' s' ∧ Q b H'
noncomputable def AP (X : Cx) (pins : List (Addr × Obj)) (σ : St) (Q : List V → Hp → Prop) (us : List Value) (s' : Shared) : Prop := ∃ vs H', Inv X pins σ H' s' ∧ Vals vs us ∧ Q vs H'
noncomputable def SP (X : Cx) (pins : List (Addr × Obj)) (D : Ends) (f : Flow) (s' : Shared) : Prop :=
  match f with
  | .next => ∃ σ' H', Inv X pins σ' H' s' ∧ D.nx σ' H'
  | .brk => ∃ σ' H', Inv X pins σ' H' s' ∧ D.bk σ' H'
  | .cont => ∃ σ' H', Inv X pins σ' H' s' ∧ D.ct σ' H'
  | .ret u => ∃ v σ' H', Inv X pins σ' H' s' ∧ RelV v u ∧ D.rt v H'

noncomputable def PE (X : Cx) (e : Expr) (t : TE) : Prop :=
  ∀ (pins : List (Addr × Obj)) (s : Shared) (σ : St) (H : Hp) (Q : VK), Inv X pins σ H s → t σ H Q → wpAny (model X.prog X.w) X.A (eval e X.env) (EP X pins σ Q) X.xe s
noncomputable def PT (X : Cx) (e : Expr) (t : TT) : Prop :=
  ∀ (pins : List (Addr × Obj)) (s : Shared) (σ : St) (H : Hp) (Q : Bool → Hp → Prop), Inv X pins σ H s → t σ H Q → wpAny (model X.prog X.w) X.A (isTrue e X.env (eval e X.env)) (TP X pins σ Q) X.xe s
/-- a test whatever its 'whole' is (and, or) -/
noncomputable def PW (X : Cx) (e : Expr) (t : TT) : Prop :=
  ∀ (whole : Sem Value) (pins : List (Addr × Obj)) (s : Shared) (σ : St) (H : Hp) (Q : Bool → Hp → Prop), Inv X pins σ H s → t σ H Q → wpAny (model X.prog X.w) X.A (isTrue e X.env whole) (TP X pins σ Q) X.xe s
theorem PW.pt {X : Cx} {e : Expr} {t : TT} (h : PW X e t) : PT X e t := h _
/-- an argument list (no star), from the left -/
noncomputable def PA (X : Cx) (es : List Expr) (t : TA) : Prop :=
  ∀ (pos : Pos) (pins : List (Addr × Obj)) (s : Shared) (σ : St) (H : Hp) (Q : List V → Hp → Prop), Inv X pins σ H s → t σ H Q → wpAny (model X.prog X.w) X.A (spliced (backTo pos (starEach es X.env))) (AP X pins σ Q) X.xe s
noncomputable def PS (X : Cx) (st : Stmt) (t : TS) : Prop :=
  ∀ (pins : List (Addr × Obj)) (s : Shared) (σ : St) (H : Hp) (D : Ends), Inv X pins σ H s → t D σ H → wpAny (model X.prog X.w) X.A (exec st X.env) (SP X pins D) X.xe s
noncomputable def PSs (X : Cx) (st : List Stmt) (t : TS) : Prop :=
  ∀ (pins : List (Addr × Obj)) (s : Shared) (σ : St) (H : Hp) (D : Ends), Inv X pins σ H s → t D σ H → wpAny (model X.prog X.w) X.A (execs st X.env) (SP X pins D) X.xe s
/-- weaken the end -/
theorem thn {α : Type} {t : Sem α} {Q Q' : α → Shared → Prop} {M : Model} {A : Around} {E : Value → Shared → Prop} {s : Shared} (h : wpAny M A t Q E s) (hQ : ∀ a s, Q a s → Q' a s) : wpAny M A t Q' E s := wpAny_mono h hQ fun _ _ x => x
end L2

namespace L2
open PySem PySem.Spec PyProof.Rows
section
variable {X : Cx}

/-- two expressions in a row -/
theorem bin {a b : Expr} {ta tb : TE} (ha : PE X a ta) (hb : PE X b tb) {pins : List (Addr × Obj)} {s : Shared} {σ : St} {H : Hp} {R : V → V → Hp → Prop} (I : Inv X pins σ H s) (h : ta σ H fun x H1 => tb σ H1 fun y H2 => R x y H2)
    {α : Type} {Q : α → Shared → Prop} {f : Value → Value → Sem α}
    (hf : ∀ v u s2 x y H2, Inv X pins σ H2 s2 → RelV x v → RelV y u → R x y H2 → wpAny (model X.prog X.w) X.A (f v u) Q X.xe s2) :
    wpAny (model X.prog X.w) X.A (eval a X.env) (fun v s₁ => wpAny (model X.prog X.w) X.A (eval b X.env) (fun u s₂ => wpAny (model X.prog X.w) X.A (f v u) Q X.xe s₂) X.xe s₁) X.xe s := by
  refine thn (ha pins s σ H _ I h) fun v s1 ⟨x, H1, I1, r1, q1⟩ => ?_
  refine thn (hb pins s1 σ H1 _ I1 q1) fun u s2 ⟨y, H2, I2, r2, q2⟩ => ?_
  exact hf v u s2 x y H2 I2 r1 r2 q2

/-! ### names and constants -/
noncomputable def tVar (i : Nat) : TE := fun σ H Q => ∃ v, σ[i]? = some (some v) ∧ Q v H
noncomputable def tC (v : V) : TE := fun _ H Q => Q v H
theorem pe_var {i : Nat} {x : Str} {pos : Pos} (hN : X.N[i]? = some x) (hv : Vis X.env.scope x) (hd : (x == ("__debug__" : Str)) = false := by decide) (hcd : (x == ("__classdict__" : Str)) = false := by decide) : PE X (.Name x pos) (tVar i) := by
  intro pins s σ H Q I h
  obtain ⟨v, e, h⟩ := h
  obtain ⟨m, hn, hl⟩ := I.loc
  obtain ⟨u, r, l⟩ := hl i x v hN e hv
  have fin : EP X pins σ Q u s := ⟨v, H, I, r, h⟩
  rcases l with ⟨hk, hm⟩ | ⟨hk, c, hc, hcell⟩
  · exact wpAny_Name (wpAny_loadName_local I.ok.kind hk hn hm fin) hd
  · rcases hk with hk | hk
    · exact wpAny_Name (wpAny_loadName_cell I.ok.kind hk hc hcell fin) hd
    · exact wpAny_Name (wpAny_loadName_free I.ok.kind hk hc hcell fin hcd) hd
theorem pe_int {i j pos} : PE X (.Constant (.int i) j pos) (tC (.int i)) := fun _ _ _ H _ I h => wpAny_Constant_int ⟨.int i, H, I.tok _, ⟨_, rfl⟩, h⟩
theorem pe_bl {b j pos} : PE X (.Constant (.bool b) j pos) (tC (.bl b)) := fun _ _ _ H _ I h => Constant_bool ⟨.bl b, H, I, rfl, h⟩
theorem pe_non {j pos} : PE X (.Constant .none j pos) (tC .non) := fun _ _ _ H _ I h => Constant_none ⟨.non, H, I, rfl, h⟩
theorem pe_str {x j pos} : PE X (.Constant (.str x) j pos) (tC (.str x)) := fun _ _ _ H _ I h => Calls.Constant_str ⟨.str x, H, I.tok _, ⟨_, rfl⟩, h⟩

/-- a global name of the def -/
noncomputable def Gl (X : Cx) (x : Str) : Prop := X.env.kindOf x = some .globalImplicit
theorem ld_glob {E : Value → Shared → Prop} {pins : List (Addr × Obj)} {s : Shared} {σ : St} {H : Hp} {x : Str} {u : Value} {pos : Pos} {Q : Value → Shared → Prop} (I : Inv X pins σ H s) (hg : Gl X x) (hm : X.mg x = some u) (h : Q u s)
    (hd : (x == ("__debug__" : Str)) = false := by decide) : wpAny (model X.prog X.w) X.A (eval (.Name x pos) X.env) Q E s :=
  Calls.Name_function_global I.ok.kind hg (Calls.loadGlobal_global (by rw [I.ok.glob]; exact I.mod.glob.keeps I.bk) hm h) hd
theorem ld_blt {E : Value → Shared → Prop} {pins : List (Addr × Obj)} {s : Shared} {σ : St} {H : Hp} {x : Str} {u : Value} {pos : Pos} {Q : Value → Shared → Prop} (I : Inv X pins σ H s) (hg : Gl X x) (hm : X.mg x = none) (hv : bootBuiltins x = some u) (h : Q u s)
    (hn : x ≠ "__name__" := by decide) (hd : (x == ("__debug__" : Str)) = false := by decide) : wpAny (model X.prog X.w) X.A (eval (.Name x pos) X.env) Q E s := by
  obtain ⟨mb, h1, h2⟩ := I.mod.blt
  exact Calls.Name_function_global I.ok.kind hg (Calls.loadGlobal_builtin (by rw [I.ok.glob]; exact I.mod.glob.keeps I.bk) hm (by rw [I.ok.blt]; exact h1.keeps I.bk) ((h2 x hn).trans hv) h) hd
/-- a module's constant, a class, a function, as a value -/
theorem pe_glob {x : Str} {v : V} {u : Value} {pos : Pos} (hg : Gl X x) (hm : X.mg x = some u) (r : RelV v u) (hd : (x == ("__debug__" : Str)) = false := by decide) : PE X (.Name x pos) (tC v) :=
  fun _ _ _ H _ I h => ld_glob I hg hm ⟨v, H, I, r, h⟩ hd
theorem pe_bltn {x : Str} {v : V} {u : Value} {pos : Pos} (hg : Gl X x) (hm : X.mg x = none) (hv : bootBuiltins x = some u) (r : RelV v u) (hn : x ≠ "__name__" := by decide) (hd : (x == ("__debug__" : Str)) = false := by decide) : PE X (.Name x pos) (tC v) :=
  fun _ _ _ H _ I h => ld_blt I hg hm hv ⟨v, H, I, r, h⟩ hn hd

/-! ### arithmetic -/
variable {a b : Expr} {ta tb : TE} {pos : Pos}
/-! ### comparisons -/
noncomputable def PC (X : Cx) (op : CmpOp) (a b : Expr) (t : TE) : Prop :=
  ∀ (pins : List (Addr × Obj)) (s : Shared) (σ : St) (H : Hp) (Q : VK), Inv X pins σ H s → t σ H Q →
    wpAny (model X.prog X.w) X.A (eval a X.env) (fun v s₁ => wpAny (model X.prog X.w) X.A (eval b X.env) (fun u s₂ => wpAny (model X.prog X.w) X.A (compareOp op v u) (EP X pins σ Q) X.xe s₂) X.xe s₁) X.xe s
theorem nobehind (b : Expr) {op : CmpOp} (h : op ≠ .In) (h2 : op ≠ .NotIn) : behindInMarks op b = false := by
  have e1 : (op == CmpOp.In) = false := by cases op <;> first | rfl | exact absurd rfl h
  have e2 : (op == CmpOp.NotIn) = false := by cases op <;> first | rfl | exact absurd rfl h2
  cases b <;> simp [behindInMarks, e1, e2]
/-- a comparison as a value, as a test -/
noncomputable def tB (t : TE) : TT := fun σ H Q => t σ H fun x H1 => ∃ c, x = .bl c ∧ Q c H1
theorem pt_cmp {op : CmpOp} {t : TE} (h : PC X op a b t) (h1 : behindInMarks op b = false := by first | exact nobehind _ (by decide) (by decide) | rfl) : PT X (.Compare a [op] [b] pos) (tB t) := by
  intro pins s σ H Q I hw
  refine wpAny_isTrue_Compare1 (thn (h pins s σ H _ I hw) fun v s1 h1 => thn h1 fun u s2 h2 => thn h2 fun c s3 ⟨x, H1, I1, r1, q1⟩ => ?_) h1
  obtain ⟨d, rfl, q⟩ := q1
  cases r1
  exact wpAny_truthy_bool ⟨H1, I1, q⟩
/-- an expression whose value is a bool, as a test -/
theorem pt_val {e : Expr} {t : TE} (h : PE X e t) (he : ∀ whole, isTrue e X.env whole = (do let v ← whole; standAt e.pos; holding [v] (truthy v)) := by intro _; rfl) : PT X e (tB t) := by
  intro pins s σ H Q I hw
  refine isTrue_plain (thn (h pins s σ H _ I hw) fun v s1 ⟨x, H1, I1, r1, q1⟩ => ?_) (he _)
  obtain ⟨d, rfl, q⟩ := q1
  cases r1
  exact wpAny_truthy_bool ⟨H1, I1, q⟩

/-! ### and, or, not -/
variable {tA tB' : TT} {rest : List Expr}
noncomputable def tAnd (t u : TT) : TT := fun σ H Q => t σ H fun c H1 => if c = true then u σ H1 Q else Q false H1
noncomputable def tOr (t u : TT) : TT := fun σ H Q => t σ H fun c H1 => if c = true then Q true H1 else u σ H1 Q
noncomputable def tNot (t : TT) : TT := fun σ H Q => t σ H fun c H1 => Q (!c) H1
theorem pw_and1 (ha : PT X a tA) : PW X (.BoolOp .And [a] pos) tA := by
  intro wh pins s σ H Q I h
  refine isTrue_and (thn (ha pins s σ H Q I h) fun c s1 e => ?_)
  cases c with
  | true => exact isTrue_and_nil e
  | false => exact e
theorem pw_or1 (ha : PT X a tA) : PW X (.BoolOp .Or [a] pos) tA := by
  intro wh pins s σ H Q I h
  refine isTrue_or (thn (ha pins s σ H Q I h) fun c s1 e => ?_)
  cases c with
  | false => exact isTrue_or_nil e
  | true => exact e
theorem pw_and (ha : PT X a tA) (hb : PW X (.BoolOp .And (b :: rest) pos) tB') : PW X (.BoolOp .And (a :: b :: rest) pos) (tAnd tA tB') := by
  intro wh pins s σ H Q I h
  refine isTrue_and (thn (ha pins s σ H _ I h) fun c s1 ⟨H1, I1, q1⟩ => ?_)
  cases c with
  | true => exact hb wh pins s1 σ H1 Q I1 q1
  | false => exact ⟨H1, I1, q1⟩
theorem pw_or (ha : PT X a tA) (hb : PW X (.BoolOp .Or (b :: rest) pos) tB') : PW X (.BoolOp .Or (a :: b :: rest) pos) (tOr tA tB') := by
  intro wh pins s σ H Q I h
  refine isTrue_or (thn (ha pins s σ H _ I h) fun c s1 ⟨H1, I1, q1⟩ => ?_)
  cases c with
  | true => exact ⟨H1, I1, q1⟩
  | false => exact hb wh pins s1 σ H1 Q I1 q1
theorem pt_not (ha : PT X a tA) : PT X (.UnaryOp .Not a pos) (tNot tA) := by
  intro pins s σ H Q I h
  exact isTrue_not (ha pins s σ H (fun c H1 => Q (!c) H1) I h)
/-- .. as values (bools) -/
noncomputable def tAndV (ta tb : TE) : TE := fun σ H Q => ta σ H fun x H1 => ∃ c, x = .bl c ∧ if c = true then tb σ H1 Q else Q (.bl false) H1
noncomputable def tNotV (ta : TE) : TE := fun σ H Q => ta σ H fun x H1 => ∃ c, x = .bl c ∧ Q (.bl (!c)) H1
theorem pe_one {op} {t : TE} (h : PE X a t) : PE X (.BoolOp op [a] pos) t := fun pins s σ H Q I hw => BoolOp_one (h pins s σ H Q I hw)
theorem pe_and (ha : PE X a ta) (hb : PE X (.BoolOp .And (b :: rest) pos) tb) : PE X (.BoolOp .And (a :: b :: rest) pos) (tAndV ta tb) := by
  intro pins s σ H Q I h
  refine BoolOp_and (thn (ha pins s σ H _ I h) fun v s1 ⟨x, H1, I1, r1, q1⟩ => ?_)
  obtain ⟨c, rfl, q1⟩ := q1
  cases r1
  refine wpAny_truthy_bool ?_
  cases c with
  | true => exact hb pins s1 σ H1 Q I1 q1
  | false => exact ⟨.bl false, H1, I1, rfl, q1⟩
theorem pe_not (ha : PE X a ta) : PE X (.UnaryOp .Not a pos) (tNotV ta) := by
  intro pins s σ H Q I h
  refine UnaryOp_ (thn (ha pins s σ H _ I h) fun v s1 ⟨x, H1, I1, r1, q1⟩ => ?_)
  obtain ⟨c, rfl, q1⟩ := q1
  cases r1
  exact not_of (wpAny_truthy_bool ⟨.bl (!c), H1, I1, rfl, q1⟩)
end
end L2

namespace L2
open PySem PySem.Spec PyProof.Rows

/-! ### a list, a tuple that is read: tracked, frozen, or an object of the module -/
noncomputable def SqL (K : PySem.W.Frag) (H : Hp) (a : Addr) (xs : List V) : Prop :=
  Rd H a (.lst xs) ∨
    ∃ (o : Obj) (its : Array Value) (n : Nat), K.lookup a = some o ∧ o.cls = .type "list" ∧ o.dict = none ∧ o.data = .seq its n ∧ its.size ≤ sizeLine ∧ Vals xs its.toList
noncomputable def SqT (K : PySem.W.Frag) (H : Hp) (a : Addr) (xs : List V) : Prop :=
  Rd H a (.tup xs) ∨
    ∃ (o : Obj) (its : Array Value) (n : Nat), K.lookup a = some o ∧ o.cls = .type "tuple" ∧ o.data = .seq its n ∧ its.size ≤ sizeLine ∧ Vals xs its.toList
noncomputable def absV : Value → Option V
  | .none => some .non
  | .bool b => some (.bl b)
  | .int i _ => some (.int i)
  | .str x _ => some (.str x)
  | .bytes b _ => some (.byt b)
  | .float b _ => some (.flt b)
  | .ref a => some (.ref a)
  | .type n => some (.ty n)
  | _ => none
theorem RelV.abs {x : V} {u : Value} (r : RelV x u) : absV u = some x := by
  cases x with
  | non => cases r; rfl
  | bl _ => cases r; rfl
  | int _ => obtain ⟨t, rfl⟩ := r; rfl
  | str _ => obtain ⟨t, rfl⟩ := r; rfl
  | byt _ => obtain ⟨t, rfl⟩ := r; rfl
  | flt _ => obtain ⟨t, rfl⟩ := r; rfl
  | ref _ => cases r; rfl
  | ty _ => cases r; rfl
theorem RelV.inj {x y : V} {u : Value} (r : RelV x u) (q : RelV y u) : x = y := Option.some.inj (r.abs.symm.trans q.abs)
theorem Vals.inj : ∀ {xs ys : List V} {us : List Value}, Vals xs us → Vals ys us → xs = ys
  | _, _, _, .nil, .nil => rfl
  | _, _, _, .cons r t, .cons r' t' => by rw [r.inj r', Vals.inj t t']
section
variable {X : Cx} {pins : List (Addr × Obj)} {σ : St} {H : Hp} {s : Shared} {a : Addr} {xs ys : List V}
theorem SqL.of {K : PySem.W.Frag} (h : H a = some (.lst xs)) : SqL K H a xs := .inl (.inl h)
theorem SqT.of {K : PySem.W.Frag} (h : H a = some (.tup xs)) : SqT K H a xs := .inl (.inl h)
theorem Inv.list (I : Inv X pins σ H s) (h : SqL X.K H a xs) : ∃ its : List Value, Vals xs its ∧ PlainL s.heap a its.toArray ∧ xs.length ≤ sizeLine := by
  rcases h with h | ⟨o, its, n, hk, hc, hd, hs, hz, r⟩
  · obtain ⟨z, its, n, r, e⟩ := h.ok I.hok
    exact ⟨its, r, ⟨_, n, e, rfl, rfl, rfl⟩, z⟩
  · refine ⟨its.toList, r, ⟨o, n, I.kIn a o hk, hc, hd, by simpa using hs⟩, ?_⟩
    have e := r.length
    simp only [Array.length_toList] at e
    omega
theorem Inv.tuple (I : Inv X pins σ H s) (h : SqT X.K H a xs) : ∃ its : List Value, Vals xs its ∧ IsTup s.heap a its.toArray ∧ xs.length ≤ sizeLine := by
  rcases h with h | ⟨o, its, n, hk, hc, hs, hz, r⟩
  · obtain ⟨z, its, r, p⟩ := h.ok I.hok
    exact ⟨its, r, p, z⟩
  · refine ⟨its.toList, r, ⟨o, I.kIn a o hk, hc, n, by simpa using hs⟩, ?_⟩
    have e := r.length
    simp only [Array.length_toList] at e
    omega
theorem Inv.list_inj (I : Inv X pins σ H s) (h : SqL X.K H a xs) (h' : SqL X.K H a ys) : xs = ys := by
  obtain ⟨its, r, ⟨o, n, e, _, _, d⟩, _⟩ := I.list h
  obtain ⟨its', r', ⟨o', n', e', _, _, d'⟩, _⟩ := I.list h'
  rw [e] at e'; cases e'
  rw [d] at d'
  injection d' with d1 _
  have : its = its' := by simpa using congrArg Array.toList d1
  subst this
  exact r.inj r'
end

/-! ### another wish about exceptions -/
noncomputable abbrev Cx.wish (X : Cx) (E : Value → Shared → Prop) : Cx := { X with xe := E }
/-- no exception leaves -/
noncomputable abbrev Cx.nox (X : Cx) : Cx := X.wish fun _ _ => False
theorem Cx.Ok.wish {X : Cx} (ok : X.Ok) (E : Value → Shared → Prop) : (X.wish E).Ok :=
  ⟨ok.mod, ok.kind, ok.glob, ok.blt, ok.above, ok.inj, ok.has, ok.cab, ok.hd, ok.frames, ok.stk, ok.exf, ok.bs, ok.bsz, ok.noex, ok.exfs, ok.funs, ok.frf⟩
theorem Cx.Ok.unwish {X : Cx} {E : Value → Shared → Prop} (ok : (X.wish E).Ok) : X.Ok :=
  ⟨ok.mod, ok.kind, ok.glob, ok.blt, ok.above, ok.inj, ok.has, ok.cab, ok.hd, ok.frames, ok.stk, ok.exf, ok.bs, ok.bsz, ok.noex, ok.exfs, ok.funs, ok.frf⟩
section
variable {X : Cx} {pins : List (Addr × Obj)} {σ : St} {H : Hp} {s : Shared} {E : Value → Shared → Prop}
theorem Inv.wish (I : Inv X pins σ H s) (E : Value → Shared → Prop) : Inv (X.wish E) pins σ H s := ⟨I.ok.wish E, I.os, I.bare, I.base, I.loc, I.cell, I.free, I.freeC, I.pin, I.hok, I.len⟩
theorem Inv.unwish (I : Inv (X.wish E) pins σ H s) : Inv X pins σ H s := ⟨I.ok.unwish, I.os, I.bare, I.base, I.loc, I.cell, I.free, I.freeC, I.pin, I.hok, I.len⟩
theorem SP.unwish {D : Ends} {f : Flow} {s' : Shared} (h : SP (X.wish E) pins D f s') : SP X pins D f s' := by
  cases f with
  | next => obtain ⟨σ', H', I, q⟩ := h; exact ⟨σ', H', I.unwish, q⟩
  | brk => obtain ⟨σ', H', I, q⟩ := h; exact ⟨σ', H', I.unwish, q⟩
  | cont => obtain ⟨σ', H', I, q⟩ := h; exact ⟨σ', H', I.unwish, q⟩
  | ret u => obtain ⟨v, σ', H', I, r, q⟩ := h; exact ⟨v, σ', H', I.unwish, r, q⟩
theorem PSs.nox {st : List Stmt} {t : TS} (h : PSs X.nox st t) : PSs X st t := fun pins s σ H D I hw =>
  wpAny_mono (h pins s σ H D (I.wish _) hw) (fun _ _ q => q.unwish) fun _ _ z => False.elim z
end

/-! ### blocks and small statements -/
section
variable {X : Cx} {st : Stmt} {rest : List Stmt} {t u : TS} {e : Expr} {te : TE} {pos : Pos}
noncomputable def tNext : TS := fun D σ H => D.nx σ H
noncomputable def tSeq (t u : TS) : TS := fun D σ H => t { D with nx := u D } σ H
theorem pss_nil : PSs X [] tNext := fun _ _ σ H _ I h => wpAny_execs_nil ⟨σ, H, I, h⟩
theorem pss_cons (h1 : PS X st t) (h2 : PSs X rest u) : PSs X (st :: rest) (tSeq t u) := by
  intro pins s σ H D I h
  refine wpAny_execs_cons (thn (h1 pins s σ H { D with nx := u D } I h) fun f s1 q => ?_)
  cases f with
  | next =>
    obtain ⟨σ', H', I', q⟩ := q
    exact h2 pins s1 σ' H' D I' q
  | ret v => exact q
  | brk => exact q
  | cont => exact q
theorem pss_one (h1 : PS X st t) : PSs X [st] t := by
  intro pins s σ H D I h
  refine wpAny_execs_cons (thn (h1 pins s σ H D I h) fun f s1 q => ?_)
  cases f with
  | next => exact wpAny_execs_nil q
  | ret v => exact q
  | brk => exact q
  | cont => exact q
/-- in a def's body nothing is shown -/
theorem Inv.quiet {pins : List (Addr × Obj)} {σ : St} {H : Hp} {s : Shared} (I : Inv X pins σ H s) : interactive X.env = false := by simp [interactive, I.ok.kind]
/-- an expression whose value is dropped -/
noncomputable def tDrop (te : TE) : TS := fun D σ H => te σ H fun _ H1 => D.nx σ H1
theorem ps_expr (he : PE X e te) (hs : swapsWith e none pos.line X.env = pure false := by rfl) : PS X (.Expr e pos) (tDrop te) := by
  intro pins s σ H D I h
  exact wpAny_Expr_any (thn (he pins s σ H _ I h) fun v s1 ⟨x, H1, I1, r1, q1⟩ => ⟨σ, H1, I1, q1⟩) I.quiet hs
noncomputable def tRet (te : TE) : TS := fun D σ H => te σ H D.rt
theorem ps_ret (he : PE X e te) : PS X (.Return (some e) pos) (tRet te) := by
  intro pins s σ H D I h
  exact wpAny_Return_some (thn (he pins s σ H _ I h) fun v s1 ⟨x, H1, I1, r1, q1⟩ => ⟨x, σ, H1, I1, r1, q1⟩)
noncomputable def tIfS (c : TT) (t u : TS) : TS := fun D σ H => c σ H fun b H1 => if b = true then t D σ H1 else u D σ H1
theorem ps_if {c : Expr} {a b : List Stmt} {tc : TT} (hc : PT X c tc) (ha : PSs X a t) (hb : PSs X b u) : PS X (.If c a b pos) (tIfS tc t u) := by
  intro pins s σ H D I h
  refine wpAny_If (thn (hc pins s σ H _ I h) fun d s1 ⟨H1, I1, q1⟩ => ?_)
  cases d with
  | true => exact ha pins s1 σ H1 D I1 q1
  | false => exact hb pins s1 σ H1 D I1 q1
end

/-! ### targets -/
noncomputable abbrev TG := V → St → Hp → (St → Hp → Prop) → Prop
noncomputable abbrev TGs := List V → St → Hp → (St → Hp → Prop) → Prop
noncomputable def PG (X : Cx) (target : Expr) (t : TG) : Prop :=
  ∀ (pins : List (Addr × Obj)) (s : Shared) (σ : St) (H : Hp) (v : V) (u : Value) (Q : St → Hp → Prop), Inv X pins σ H s → RelV v u → t v σ H Q →
    wpAny (model X.prog X.w) X.A (assign target X.env u) (fun _ s' => ∃ σ' H', Inv X pins σ' H' s' ∧ Q σ' H') X.xe s
/-- several targets, one after another -/
noncomputable def PGs (X : Cx) (ts : List Expr) (t : TGs) : Prop :=
  ∀ (pins : List (Addr × Obj)) (s : Shared) (σ : St) (H : Hp) (vs : List V) (us : List Value) (Q : St → Hp → Prop), Inv X pins σ H s → Vals vs us → t vs σ H Q →
    wpAny (model X.prog X.w) X.A (assignInOrder ((assignEach ts X.env).map (·.2)) us) (fun _ s' => ∃ σ' H', Inv X pins σ' H' s' ∧ Q σ' H') X.xe s
/-- o[i] = v, by values -/
noncomputable abbrev TSet := V → V → V → Hp → (Hp → Prop) → Prop
noncomputable def PSet (X : Cx) (t : TSet) : Prop :=
  ∀ (pins : List (Addr × Obj)) (s : Shared) (σ : St) (H : Hp) (o i v : V) (ov iv u : Value) (Q : Hp → Prop), Inv X pins σ H s → RelV o ov → RelV i iv → RelV v u → t o i v H Q →
    wpAny (model X.prog X.w) X.A (setItem ov iv u) (fun _ s' => ∃ H', Inv X pins σ H' s' ∧ Q H') X.xe s
/-- a op= b, by values -/
noncomputable abbrev TIp := V → V → Hp → VK → Prop
noncomputable def PIp (X : Cx) (op : Operator) (t : TIp) : Prop :=
  ∀ (pins : List (Addr × Obj)) (s : Shared) (σ : St) (H : Hp) (x y : V) (v u : Value) (Q : VK), Inv X pins σ H s → RelV x v → RelV y u → t x y H Q →
    wpAny (model X.prog X.w) X.A (inplaceOp op v u) (EP X pins σ Q) X.xe s
section
variable {X : Cx} {pos : Pos}
noncomputable def gName (i : Nat) : TG := fun v σ H Q => Q (σ.set i (some v)) H
theorem pg_name {i : Nat} {x : Str} (hN : X.N.Nodup) (hi : X.N[i]? = some x) (hx : Loc X.env.scope x) (hf : X.fn x = true ∨ X.env.scope.names.lookup x = some .local := by first | exact .inl rfl | exact .inr rfl | assumption) : PG X (.Name x pos) (gName i) := by
  intro pins s σ H v u Q I r h
  exact wpAny_assign_Name (store_ok I hN hi hx r (fun s' I' => ⟨_, H, I', h⟩) hf)
noncomputable def gNil : TGs := fun vs σ H Q => vs = [] ∧ Q σ H
noncomputable def gCons (t : TG) (u : TGs) : TGs := fun vs σ H Q => ∃ v r, vs = v :: r ∧ t v σ H fun σ' H' => u r σ' H' Q
theorem pgs_nil : PGs X [] gNil := by
  intro pins s σ H vs us Q I r h
  obtain ⟨e, h⟩ := h
  subst e
  cases r
  exact assignInOrder_nil ⟨σ, H, I, h⟩
theorem pgs_cons {e : Expr} {es : List Expr} {t : TG} {u : TGs} (h1 : PG X e t) (h2 : PGs X es u)
    (hs : (assignEach (e :: es) X.env).map (·.2) = assign e X.env :: (assignEach es X.env).map (·.2) := by rfl) : PGs X (e :: es) (gCons t u) := by
  intro pins s σ H vs us Q I r h
  obtain ⟨v, vr, e1, h⟩ := h
  subst e1
  cases r with
  | cons r rr =>
    rw [hs]
    refine assignInOrder_cons (thn (h1 pins s σ H _ _ _ I r h) fun _ s1 ⟨σ1, H1, I1, q1⟩ => ?_)
    exact h2 pins s1 σ1 H1 _ _ Q I1 rr q1
/-- (a, b, ..) = a tuple of that length -/
noncomputable def gTup (K : PySem.W.Frag) (n : Nat) (t : TGs) : TG := fun v σ H Q => ∃ a xs, v = .ref a ∧ SqT K H a xs ∧ xs.length = n ∧ t xs σ H Q
theorem pg_tup {es : List Expr} {k : Nat} {t : TGs} {n : Nat} (hc : X.calm = true) (h : PGs X es t)
    (hn : (assignEach es X.env).length = n := by rfl) (hst : (assignEach es X.env).findIdx? (·.1) = none := by rfl) : PG X (.Tuple es k pos) (gTup X.K n t) := by
  intro pins s σ H v u Q I r hw
  obtain ⟨a, xs, e1, hq, hl, hw⟩ := hw
  subst e1
  cases r
  obtain ⟨its, rv, ht, hz⟩ := I.tuple hq
  refine assign_Tuple_tuple (I.ok.hd hc) ht (by simp [hn, ← hl, rv.length]) hst fun h' hx => ?_
  have I1 : Inv X pins σ H { s with heap := h' } := I.kept (t' := s.toks) fun b o e => hx b o (Nat.ne_of_lt (Heap.lt_size e)) e
  exact h pins _ σ H xs _ Q I1 (by simpa using rv) hw
/-- o[i] = .. -/
noncomputable def gSub (to ti : TE) (t : TSet) : TG := fun v σ H Q => to σ H fun o H1 => ti σ H1 fun i H2 => t o i v H2 fun H3 => Q σ H3
theorem pg_sub {o i : Expr} {to ti : TE} {t : TSet} (ho : PE X o to) (hi : PE X i ti) (hs : PSet X t)
    (ha : ∀ v, assign (.Subscript o i pos) X.env v = (do
      let ov ← holding [v] (eval o X.env)
      let iv ← holding [v, ov] (eval i X.env)
      standAt pos
      holding [v, ov, iv] (setItem ov iv v)
      release [v, ov, iv] []) := by intro _; rfl) : PG X (.Subscript o i pos) (gSub to ti t) := by
  intro pins s σ H v u Q I r h
  rw [ha]
  refine wpAny_bind (wpAny_holding (thn (ho pins s σ H _ I h) fun ov s1 ⟨x, H1, I1, r1, q1⟩ => ?_))
  refine wpAny_bind (wpAny_holding (thn (hi pins s1 σ H1 _ I1 q1) fun iv s2 ⟨y, H2, I2, r2, q2⟩ => ?_))
  refine wpAny_bind (wpAny_standAt (wpAny_bind (wpAny_holding (thn (hs pins s2 σ H2 x y v ov iv u _ I2 r1 r2 r q2) fun _ s3 ⟨H3, I3, q3⟩ => ?_))))
  exact wpAny_release ⟨σ, H3, I3, q3⟩
/-- target = value -/
noncomputable def tAsg (te : TE) (g : TG) : TS := fun D σ H => te σ H fun x H1 => g x σ H1 D.nx
theorem ps_asg {tg e : Expr} {te : TE} {g : TG} (he : PE X e te) (hg : PG X tg g) (hs : swapsWithSole [tg] e pos.line X.env = pure false := by rfl) (hw : swappedStores [tg] e X.env = pure none := by rfl)
    (h1 : (assignEach [tg] X.env).map (·.2) = [assign tg X.env] := by rfl) : PS X (.Assign [tg] e pos) (tAsg te g) := by
  intro pins s σ H D I h
  refine wpAny_Assign_stores (thn (he pins s σ H _ I h) fun v s1 ⟨x, H1, I1, r1, q1⟩ => ?_) hs hw
  rw [h1]
  exact thn (hg pins s1 σ H1 x v _ I1 r1 q1) fun _ s2 q => q
/-- name = value -/
theorem ps_set {i : Nat} {x : Str} {e : Expr} {te : TE} {pos' : Pos} (hN : X.N.Nodup) (hi : X.N[i]? = some x) (hx : Loc X.env.scope x) (he : PE X e te) (hs : swapsWith e (some (.Name x pos')) pos.line X.env = pure false := by rfl) (hf : X.fn x = true ∨ X.env.scope.names.lookup x = some .local := by first | exact .inl rfl | exact .inr rfl | assumption) :
    PS X (.Assign [.Name x pos'] e pos) (tAsg te (gName i)) := by
  intro pins s σ H D I h
  refine wpAny_Assign_Name (thn (he pins s σ H _ I h) fun v s1 ⟨y, H1, I1, r1, q1⟩ => ?_) hs
  exact store_ok I1 hN hi hx r1 (fun s2 I2 => ⟨_, H1, I2, q1⟩) hf
/-- name op= e -/
noncomputable def tAug (i : Nat) (te : TE) (ti : TIp) : TS := fun D σ H => ∃ x, σ[i]? = some (some x) ∧ te σ H fun y H1 => ti x y H1 fun z H2 => D.nx (σ.set i (some z)) H2
theorem ps_aug {i : Nat} {x : Str} {e : Expr} {te : TE} {op : Operator} {ti : TIp} {pos' : Pos} (hN : X.N.Nodup) (hi : X.N[i]? = some x) (hx : Loc X.env.scope x) (he : PE X e te) (ho : PIp X op ti) (hf : X.fn x = true ∨ X.env.scope.names.lookup x = some .local := by first | exact .inl rfl | exact .inr rfl | assumption) :
    PS X (.AugAssign (.Name x pos') op e pos) (tAug i te ti) := by
  intro pins s σ H D I h
  obtain ⟨v, e1, h⟩ := h
  obtain ⟨m, hn, hl⟩ := I.loc
  have vis : Vis X.env.scope x := by rcases hx with k | k; exact .inl k; exact .inr (.inl k)
  obtain ⟨u, r, l⟩ := hl i x v hi e1 vis
  refine wpAny_AugAssign_Name ?_
  have go : wpAny (model X.prog X.w) X.A (eval e X.env) (fun w s₂ => wpAny (model X.prog X.w) X.A (inplaceOp op u w) (fun r s₃ => wpAny (model X.prog X.w) X.A (storeName X.env x r) (fun _ => SP X pins D .next) X.xe s₃) X.xe s₂) X.xe s := by
    refine thn (he pins s σ H _ I h) fun w s1 ⟨y, H1, I1, r1, q1⟩ => ?_
    refine thn (ho pins s1 σ H1 v y u w _ I1 r r1 q1) fun z s2 ⟨zv, H2, I2, r2, q2⟩ => ?_
    exact store_ok I2 hN hi hx r2 (fun s3 I3 => ⟨_, H2, I3, q2⟩) hf
  rcases l with ⟨hk, hm⟩ | ⟨hk, c, hc, hcell⟩
  · exact wpAny_loadName_local I.ok.kind hk hn hm go
  · rcases hk with hk | hk
    · exact wpAny_loadName_cell I.ok.kind hk hc hcell go
    · rcases hx with k | k
      · have : X.env.scope.names.lookup x = some .free := hk
        rw [k] at this; cases this
      · have : X.env.scope.names.lookup x = some .free := hk
        rw [k] at this; cases this
/-- ints -/
noncomputable def ipI (f : Int → Int → Int) : TIp := fun x y H Q => ∃ i j, x = .int i ∧ y = .int j ∧ Q (.int (f i j)) H
theorem ip_add : PIp X .Add (ipI fun i j => i + j) := by
  intro pins s σ H x y v u Q I r1 r2 h
  obtain ⟨i, j, e1, e2, q⟩ := h
  subst e1; subst e2
  obtain ⟨t, rfl⟩ := r1
  obtain ⟨t', rfl⟩ := r2
  exact iadd_int ⟨.int _, H, I.tok _, ⟨_, rfl⟩, q⟩
theorem ip_sub : PIp X .Sub (ipI fun i j => i - j) := by
  intro pins s σ H x y v u Q I r1 r2 h
  obtain ⟨i, j, e1, e2, q⟩ := h
  subst e1; subst e2
  obtain ⟨t, rfl⟩ := r1
  obtain ⟨t', rfl⟩ := r2
  exact isub_int ⟨.int _, H, I.tok _, ⟨_, rfl⟩, q⟩
end

/-! ### while -/
section
variable {X : Cx} {pos : Pos}
/-- the invariant W with its measure -/
noncomputable def tWhile (c : TT) (tb : TS) : TS := fun D σ H => ∃ W : Nat → St → Hp → Prop, (∃ m, W m σ H) ∧ ∀ m σ H, W m σ H →
  c σ H fun b H1 => if b = true then ∃ N : St → Hp → Prop, (∀ σ' H', N σ' H' → ∃ m', m' < m ∧ W m' σ' H') ∧ tb { D with nx := N, ct := N, bk := D.nx } σ H1 else D.nx σ H1
theorem ps_while {c : Expr} {body : List Stmt} {tc : TT} {tb : TS} (hp : PassesOwn (model X.prog X.w) X.A X.env X.xe) (hc : PT X c tc) (hb : PSs X body tb) : PS X (.While c body [] pos) (tWhile tc tb) := by
  intro pins s σ H D I h
  obtain ⟨W, ⟨m0, w0⟩, turn⟩ := h
  refine wpAny_While (codeAny_whileLoop (fun n s' => ∃ σ' H', Inv X pins σ' H' s' ∧ W n σ' H') ?_ m0 ⟨σ, H, I, w0⟩)
  rintro n s1 ⟨σ1, H1, I1, w1⟩
  refine wpAny_passesOwn hp (thn (hc pins s1 σ1 H1 _ I1 (turn n σ1 H1 w1)) fun b s2 ⟨H2, I2, q2⟩ => ?_)
  cases b with
  | true =>
    obtain ⟨N, hN, q2⟩ := q2
    rw [if_pos rfl]
    refine wpAny_passesOwn hp (thn (hb pins s2 σ1 H2 _ I2 q2) fun f s3 q3 => ?_)
    cases f with
    | next =>
      obtain ⟨σ3, H3, I3, n3⟩ := q3
      obtain ⟨m', hm, w3⟩ := hN σ3 H3 n3
      exact ⟨m', hm, σ3, H3, I3, w3⟩
    | cont =>
      obtain ⟨σ3, H3, I3, n3⟩ := q3
      obtain ⟨m', hm, w3⟩ := hN σ3 H3 n3
      exact ⟨m', hm, σ3, H3, I3, w3⟩
    | brk => exact q3
    | ret v => exact q3
  | false =>
    rw [if_neg Bool.false_ne_true]
    exact wpAny_execs_nil ⟨σ1, H2, I2, q2⟩
end

/-! ### what a loop or a comprehension walks -/
/-- at turn i: it yields x (the heap may grow), or it stops -/
structure It where
  go : Nat → Hp → Prop
  yld : Nat → Hp → V → Hp → Prop
  stop : Nat → Hp → Prop
/-- the iterator's own objects may turn: they are not the frame's, not pinned, younger than the entry (or a comprehension's own) -/
noncomputable def FpOk (X : Cx) (pins : List (Addr × Obj)) (H : Hp) (b : Addr) : Prop :=
  H b = none ∧ b ≠ X.env.locals ∧ b ∉ X.fs ∧ (b ∈ X.ex ∨ X.s₀.heap.objs.size ≤ b) ∧ (∀ x c, X.env.cells.lookup x = some c → c ≠ b) ∧ ∀ p ∈ X.pn ++ pins, p.1 ≠ b
theorem Inv.fpOk {X : Cx} {pins : List (Addr × Obj)} {σ : St} {H H' : Hp} {s : Shared} {b : Addr} (I : Inv X pins σ H s) (hb : s.heap.objs.size ≤ b) (hn : H' b = none) : FpOk X pins H' b := by
  refine ⟨hn, Nat.ne_of_gt (Nat.lt_of_lt_of_le I.lt hb), I.nofs hb, .inr (Nat.le_trans I.sz hb), fun x c e z => ?_, fun p hp z => ?_⟩
  · obtain ⟨v, q⟩ := I.cell x c e
    exact absurd (Nat.lt_of_lt_of_le q.lt (by rw [z]; exact hb)) (Nat.lt_irrefl _)
  · exact absurd (Nat.lt_of_lt_of_le (Heap.lt_size (I.pin p hp).1) (by rw [z]; exact hb)) (Nat.lt_irrefl _)
structure Turn (P : Program) (w : World) (K : PySem.W.Frag) (tg : Expr) (J : It) (fp : List Addr) (it : Addr) (tn : Nat → Heap → Prop) : Prop where
  mem : it ∈ fp
  obj : ∀ i h, tn i h → ∀ b ∈ fp, ∃ o, h.get? b = some o ∧ ∀ v, o.data ≠ .cell v
  keep : ∀ i h h', tn i h → (∀ b ∈ fp, ∀ o, h.get? b = some o → h'.get? b = some o) → tn i h'
  item : ∀ (X : Cx), X.prog = P → X.w = w → X.K = K → X.calm = true → ∀ (i : Nat) (pins : List (Addr × Obj)) (s : Shared) (σ : St) (H : Hp) (E : Value → Shared → Prop), Inv X pins σ H s → (∀ b ∈ fp, FpOk X pins H b) → tn i s.heap → J.go i H →
    wpAny (model P w) X.A (pyNext (.ref it)) (fun r s1 => ∃ u, r = some u ∧
      wpAny (model P w) X.A (letOwnedTupleGo tg (.ref it) u) (fun _ s2 => ∃ x H', Inv X pins σ H' s2 ∧ RelV x u ∧ J.yld i H x H' ∧ tn (i + 1) s2.heap ∧ ∀ b ∈ fp, H' b = none) E s1) E s
  done : ∀ (X : Cx), X.prog = P → X.w = w → X.K = K → X.calm = true → ∀ (i : Nat) (pins : List (Addr × Obj)) (s : Shared) (σ : St) (H : Hp) (E : Value → Shared → Prop), Inv X pins σ H s → (∀ b ∈ fp, FpOk X pins H b) → tn i s.heap → J.stop i H →
    wpAny (model P w) X.A (pyNext (.ref it)) (fun r s1 => r = none ∧ Inv X pins σ H s1) E s
  self : ∀ (A : Around) (i : Nat) (s : Shared) (Q : Value → Shared → Prop) (E : Value → Shared → Prop), tn i s.heap → Q (.ref it) s → wpAny (model P w) A (pyIter (.ref it)) Q E s
noncomputable abbrev TI := St → Hp → (It → Hp → Prop) → Prop
/-- an iterator has come -/
noncomputable def PIE (X : Cx) (pins : List (Addr × Obj)) (σ : St) (tg : Expr) (R : It → Hp → Prop) (itv : Value) (s2 : Shared) : Prop :=
  ∃ (it : Addr) (fp : List Addr) (tn : Nat → Heap → Prop) (J : It) (H' : Hp), itv = .ref it ∧ Inv X pins σ H' s2 ∧ Turn X.prog X.w X.K tg J fp it tn ∧ tn 0 s2.heap ∧ (∀ b ∈ fp, FpOk X pins H' b) ∧ R J H'
noncomputable def PI (X : Cx) (tg iter : Expr) (wi : TI) : Prop :=
  ∀ (pins : List (Addr × Obj)) (s : Shared) (σ : St) (H : Hp) (R : It → Hp → Prop), Inv X pins σ H s → wi σ H R →
    wpAny (model X.prog X.w) X.A (eval iter X.env) (fun v s1 => wpAny (model X.prog X.w) X.A (pyIter v) (PIE X pins σ tg R) X.xe s1) X.xe s

/-- the step ahead of the store is nothing for an iterator that keeps no tuple -/
theorem go_of {M : Model} {A : Around} {E : Value → Shared → Prop} {s : Shared} {tg : Expr} {it : Addr} {u : Value} {o : Obj} {n : String} {vs : Array Value} {Q : Unit → Shared → Prop} (ho : s.heap.get? it = some o) (hc : o.cls = .type n) (hd : o.data = .fields vs)
    (hn : ["enumerate", "zip", "dict_itemiterator", "dict_reverseitemiterator", "odict_iterator", "itertools.zip_longest", "itertools.pairwise"].contains n = false) (hQ : Q () s) : wpAny M A (letOwnedTupleGo tg (.ref it) u) Q E s := by
  unfold letOwnedTupleGo
  cases tg <;> first
    | exact wpAny_pure hQ
    | (cases u <;> first
        | exact wpAny_pure hQ
        | (refine wpAny_bind (wpAny_load ho ?_)
           rw [hc, hd]
           show wpAny M A (if (["enumerate", "zip", "dict_itemiterator", "dict_reverseitemiterator", "odict_iterator", "itertools.zip_longest", "itertools.pairwise"].contains n && vs[0]? == some (rawInt _)) = true then _ else _) Q E s
           rw [if_neg (by intro h; rw [hn, Bool.false_and] at h; cases h)]
           exact wpAny_pure hQ))

/-- the list at a, as it stands at each turn (a loop may append to it) -/
noncomputable def Itl (K : PySem.W.Frag) (a : Addr) : It :=
  ⟨fun i H => ∃ xs x, SqL K H a xs ∧ xs[i]? = some x, fun i H x H' => H' = H ∧ ∀ xs, SqL K H a xs → xs[i]? = some x, fun i H => ∃ xs, SqL K H a xs ∧ xs.length ≤ i⟩
/-- lo, lo + 1, .. (n of them) -/
noncomputable def Itr (lo : Int) (n : Nat) : It := ⟨fun i _ => i < n, fun i H x H' => H' = H ∧ x = .int (lo + i), fun i _ => n ≤ i⟩
theorem turn_list {P : Program} {w : World} {K : PySem.W.Frag} {tg : Expr} (a it : Addr) : Turn P w K tg (Itl K a) [it] it (fun i h => h.IsListIter it a i) where
  mem := by simp
  obj := fun i h st b hb => by
    have e : b = it := by simpa using hb
    subst e
    obtain ⟨o, e, c, d⟩ := st
    exact ⟨o, e, fun v z => by rw [d] at z; cases z⟩
  keep := fun i h h' st k => st.at fun o e => k it (by simp) o e
  item := by
    intro X hP hw hK hc i pins s σ H E I hf st hg
    subst hP hw hK
    obtain ⟨xs, x, hq, hx⟩ := hg
    obtain ⟨its, rv, p, hz⟩ := I.list hq
    obtain ⟨u, hu, ru⟩ := rv.get hx
    obtain ⟨f0, f1, f2, f3, f4, f5⟩ := hf it (by simp)
    refine wpAny_pyNext_list_item st p.isList (x := u) (by simpa using hu) fun h' st' sb => ?_
    have I1 : Inv X pins σ H { s with heap := h' } := I.turned (t' := s.toks) (fun b o hb e => (sb.2 b hb).trans e) f0 f1 f3 f4 f5
    obtain ⟨o, e, c, d⟩ := id st'
    exact ⟨u, rfl, go_of (s := { s with heap := h' }) e c d (by decide) ⟨x, H, I1, ru, ⟨rfl, fun ys hy => by rw [I.list_inj hy hq]; exact hx⟩, st', fun b hb => (hf b hb).1⟩⟩
  done := by
    intro X hP hw hK hc i pins s σ H E I hf st hg
    subst hP hw hK
    obtain ⟨xs, hq, hx⟩ := hg
    obtain ⟨its, rv, p, hz⟩ := I.list hq
    obtain ⟨f0, f1, f2, f3, f4, f5⟩ := hf it (by simp)
    have hl := rv.length
    exact wpAny_pyNext_list_end (I.ok.hd hc) st p.isList (by simp; omega) fun h' eb => ⟨rfl, I.turned (t' := s.toks) (fun b o hb e => eb b o hb e) f0 f1 f3 f4 f5⟩
  self := fun _ _ _ _ _ st h => wpAny_pyIter_listiter st h
theorem turn_range {P : Program} {w : World} {K : PySem.W.Frag} {tg : Expr} (it : Addr) (lo : Int) (n : Nat) : Turn P w K tg (Itr lo n) [it] it (fun i h => IsRangeIter h it (lo + (i : Nat) * 1) ((n : Int) - (i : Nat)) 1) where
  mem := by simp
  obj := fun i h st b hb => by
    have e : b = it := by simpa using hb
    subst e
    exact ⟨_, st, fun v z => by
      have z' : Data.fields _ = Data.cell v := z
      cases z'⟩
  keep := fun i h h' st k => k it (by simp) _ st
  item := by
    intro X hP hw hK hc i pins s σ H E I hf st hg
    subst hP hw hK
    obtain ⟨f0, f1, f2, f3, f4, f5⟩ := hf it (by simp)
    have W := Walks.range (prog := X.prog) (w := X.w) (I.ok.hd hc) it lo 1 n
    refine W.item i s _ _ hg st fun v h' tk hv st' kk => ?_
    obtain ⟨t, rfl⟩ := hv
    have I1 : Inv X pins σ H { s with heap := h', toks := tk } := I.turned (fun b o hb e => kk b o (by simpa using hb) e) f0 f1 f3 f4 f5
    refine ⟨_, rfl, go_of (s := { s with heap := h', toks := tk }) (n := "range_iterator") st' rfl rfl (by decide) ⟨.int (lo + i), H, I1, ⟨t, ?_⟩, ⟨rfl, rfl⟩, st', fun b hb => (hf b hb).1⟩⟩
    rw [Int.mul_one]
  done := by
    intro X hP hw hK hc i pins s σ H E I hf st hg
    subst hP hw hK
    obtain ⟨f0, f1, f2, f3, f4, f5⟩ := hf it (by simp)
    exact wpAny_pyNext_range_end (I.ok.hd hc) st (by have : n ≤ i := hg; omega) fun h' eb => ⟨rfl, I.turned (t' := s.toks) (fun b o hb e => eb b o hb e) f0 f1 f3 f4 f5⟩
  self := fun _ _ _ _ _ st h => wpAny_pyIter_rangeiter st h
end L2

namespace L2
open PySem PySem.Spec PyProof.Rows
section
variable {X : Cx} {tg : Expr}
noncomputable def iList (K : PySem.W.Frag) (tl : TE) : TI := fun σ H R => tl σ H fun x H1 => ∃ a, x = .ref a ∧ (∃ xs, SqL K H1 a xs) ∧ R (Itl K a) H1
theorem pi_list {l : Expr} {tl : TE} (hl : PE X l tl) : PI X tg l (iList X.K tl) := by
  intro pins s σ H R I h
  refine thn (hl pins s σ H _ I h) fun v s1 ⟨x, H1, I1, r1, q1⟩ => ?_
  obtain ⟨a, e, ⟨xs, hq⟩, q⟩ := q1
  subst e
  cases r1
  obtain ⟨its, rv, p, hz⟩ := I1.list hq
  refine wpAny_pyIter_list p.isList ?_
  refine ⟨s1.heap.objs.size, [s1.heap.objs.size], _, _, H1, rfl, I1.kept (t' := s1.toks) fun b o e => Heap.get?_push_of_some _ e, turn_list a _, ⟨_, Heap.get?_push_size _ rfl, rfl, rfl⟩, fun b hb => ?_, q⟩
  have e : b = s1.heap.objs.size := by simpa using hb
  subst e
  exact I1.fpOk (Nat.le_refl _) (I1.hok.fresh (Nat.le_refl _))
/-- a range object just made, walked -/
theorem range_it {pins : List (Addr × Obj)} {σ : St} {H : Hp} {s : Shared} {R : It → Hp → Prop} {E : Value → Shared → Prop} {lo hi : Int} {t u v : Tok} {tk : Nat} (I : Inv X pins σ H s) (h1 : -(2 ^ 62) ≤ lo) (h2 : lo < 2 ^ 62) (h3 : -(2 ^ 62) ≤ hi) (h4 : hi < 2 ^ 62)
    (q : R (Itr lo (hi - lo).toNat) H) : wpAny (model X.prog X.w) X.A (pyIter (.ref s.heap.objs.size)) (PIE X pins σ tg R) E { s with heap := s.heap.push { cls := .type "range", data := .fields #[.int lo t, .int hi u, .int 1 v] }, toks := tk } := by
  refine wpAny_pyIter_range (IsRange.new ..) (small_one h1 h2 h3 h4) ?_
  have I1 : Inv X pins σ H { s with heap := s.heap.push { cls := .type "range", data := .fields #[.int lo t, .int hi u, .int 1 v] }, toks := tk } := I.kept fun b o e => Heap.get?_push_of_some _ e
  refine ⟨(s.heap.push { cls := .type "range", data := .fields #[.int lo t, .int hi u, .int 1 v] }).objs.size, [(s.heap.push { cls := .type "range", data := .fields #[.int lo t, .int hi u, .int 1 v] }).objs.size], _, _, H, rfl,
    I1.kept (t' := tk) fun b o e => Heap.get?_push_of_some _ e, turn_range _ lo (hi - lo).toNat, ?_, fun b hb => ?_, q⟩
  · have e1 : lo + ((0 : Nat) : Int) * 1 = lo := by simp
    have e2 : (((hi - lo).toNat : Nat) : Int) - ((0 : Nat) : Int) = Builtin.Range.rangeSize lo hi 1 := by rw [rangeSize_one]; split <;> omega
    show IsRangeIter _ _ (lo + ((0 : Nat) : Int) * 1) ((((hi - lo).toNat : Nat) : Int) - ((0 : Nat) : Int)) 1
    rw [e1, e2]
    exact Heap.get?_push_size _ rfl
  · have e : b = (s.heap.push { cls := .type "range", data := .fields #[.int lo t, .int hi u, .int 1 v] }).objs.size := by simpa using hb
    subst e
    exact I1.fpOk (Nat.le_refl _) (I1.hok.fresh (Nat.le_refl _))
noncomputable def iRng1 (ta : TA) : TI := fun σ H R => ta σ H fun vs H1 => ∃ j : Int, vs = [.int j] ∧ -(2 ^ 62) ≤ j ∧ j < 2 ^ 62 ∧ R (Itr 0 j.toNat) H1
noncomputable def iRng2 (ta : TA) : TI := fun σ H R => ta σ H fun vs H1 => ∃ i j : Int, vs = [.int i, .int j] ∧ (-(2 ^ 62) ≤ i ∧ i < 2 ^ 62 ∧ -(2 ^ 62) ≤ j ∧ j < 2 ^ 62) ∧ R (Itr i (j - i).toNat) H1
theorem pi_range1 {a : Expr} {ta : TA} {p pos : Pos} (hg : Gl X "range") (hm : X.mg "range" = none) (ha : PA X [a] ta) (hs : starEach [a] X.env = [(false, eval a X.env)] := by rfl) : PI X tg (.Call (.Name "range" p) [a] [] pos) (iRng1 ta) := by
  intro pins s σ H R I h
  refine Call_ (ld_blt I hg hm boot_range (PyProof.Rows.callWith_type1 (thn (ha pos pins s σ H _ I h) fun us s1 ⟨vs, H1, I1, r1, q1⟩ => ?_) hs rfl))
  obtain ⟨j, e, q1, q2, q⟩ := q1
  subst e
  cases r1 with
  | cons r rr =>
    cases rr
    obtain ⟨t, rfl⟩ := r
    exact call_range_1 (range_it I1 (by omega) (by omega) q1 q2 (by simpa using q))
theorem pi_range2 {a b : Expr} {ta : TA} {p pos : Pos} (hg : Gl X "range") (hm : X.mg "range" = none) (ha : PA X [a, b] ta) (hs : starEach [a, b] X.env = [(false, eval a X.env), (false, eval b X.env)] := by rfl) (hs2 : starEach [b] X.env = [(false, eval b X.env)] := by rfl) :
    PI X tg (.Call (.Name "range" p) [a, b] [] pos) (iRng2 ta) := by
  intro pins s σ H R I h
  refine Call_ (ld_blt I hg hm boot_range (PyProof.Rows.callWith_type1 (thn (ha pos pins s σ H _ I h) fun us s1 ⟨vs, H1, I1, r1, q1⟩ => ?_) (by rw [hs, hs2]) (by rw [hs2]; rfl)))
  obtain ⟨i, j, e, ⟨q1, q2, q3, q4⟩, q⟩ := q1
  subst e
  cases r1 with
  | cons r rr =>
    cases rr with
    | cons r' rr =>
      cases rr
      obtain ⟨t, rfl⟩ := r
      obtain ⟨t', rfl⟩ := r'
      exact call_range_2 (range_it I1 q1 q2 q3 q4 q)

/-! ### for -/
/-- W: the invariant by the turn and a measure; N: what the body is to reach -/
noncomputable def tFor (wi : TI) (g : TG) (tb : TS) : TS := fun D σ H => wi σ H fun J H1 => ∃ W : Nat → Nat → St → Hp → Prop, (∃ m, W 0 m σ H1) ∧ ∀ i m σ H, W i m σ H →
  (J.stop i H ∧ D.nx σ H) ∨ (J.go i H ∧ ∃ N : St → Hp → Prop, (∀ σ' H', N σ' H' → ∃ m', m' < m ∧ W (i + 1) m' σ' H') ∧ ∀ x H', J.yld i H x H' → g x σ H' fun σ2 H2 => tb { D with nx := N, ct := N, bk := D.nx } σ2 H2)
/-- the records at fp as they stand -/
noncomputable def pinsAt (fp : List Addr) (h : Heap) : List (Addr × Obj) := fp.filterMap fun b => (h.get? b).map fun o => (b, o)
theorem mem_pinsAt {fp : List Addr} {h : Heap} {b : Addr} {o : Obj} (hb : b ∈ fp) (e : h.get? b = some o) : (b, o) ∈ pinsAt fp h := List.mem_filterMap.mpr ⟨b, hb, by rw [e]; rfl⟩
theorem of_pinsAt {fp : List Addr} {h : Heap} {p : Addr × Obj} (hp : p ∈ pinsAt fp h) : p.1 ∈ fp ∧ h.get? p.1 = some p.2 := by
  obtain ⟨b, hb, e⟩ := List.mem_filterMap.mp hp
  cases q : h.get? b with
  | none => rw [q] at e; cases e
  | some o =>
    rw [q] at e
    have e' : (b, o) = p := Option.some.inj e
    subst e'
    exact ⟨hb, q⟩
theorem Inv.pinned {pins : List (Addr × Obj)} {σ : St} {H : Hp} {s : Shared} {fp : List Addr} (I : Inv X pins σ H s) (hf : ∀ b ∈ fp, FpOk X pins H b) (ho : ∀ b ∈ fp, ∃ o, s.heap.get? b = some o ∧ ∀ v, o.data ≠ .cell v) : Inv X (pins ++ pinsAt fp s.heap) σ H s :=
  I.pins_of fun p hp => (List.mem_append.mp hp).elim (fun z => I.pin p (List.mem_append_right _ z)) fun z => by
    obtain ⟨hb, e⟩ := of_pinsAt z
    obtain ⟨f0, f1, f2, _⟩ := hf p.1 hb
    obtain ⟨o, e', d⟩ := ho p.1 hb
    rw [e] at e'; cases e'
    exact ⟨e, f0, f1, f2, d⟩
theorem Inv.unpinned {pins pl : List (Addr × Obj)} {σ : St} {H : Hp} {s : Shared} (I : Inv X (pins ++ pl) σ H s) : Inv X pins σ H s := I.pins_of fun p hp => I.pin p (List.mem_append_right _ (List.mem_append_left _ hp))
theorem ps_for {iter : Expr} {body : List Stmt} {wi : TI} {g : TG} {tb : TS} {pos : Pos} (hp : PassesOwn (model X.prog X.w) X.A X.env X.xe) (hc : X.calm = true) (hi : PI X tg iter wi) (hg : PG X tg g) (hb : PSs X body tb)
    (hs : ∀ x, foldedSetIterable iter X.env x = pure x := by intro _; rfl) : PS X (.For tg iter body [] pos) (tFor wi g tb) := by
  intro pins s σ H D I h
  refine wpAny_For (thn (hi pins s σ H _ I h) fun v s1 h1 => thn h1 fun itv s2 h2 => ?_) hs
  obtain ⟨it, fp, tn, J, H2, e, I2, T, st2, f2, W, ⟨m0, w0⟩, turn⟩ := h2
  subst e
  -- what stays true of the iterator's objects through the loop
  have stat : ∀ {H' : Hp}, (∀ b ∈ fp, H' b = none) → ∀ b ∈ fp, FpOk X pins H' b := fun hn b hb => ⟨hn b hb, (f2 b hb).2⟩
  refine codeAny_forLoop_any (fun n s' => ∃ i σ' H', Inv X pins σ' H' s' ∧ tn i s'.heap ∧ (∀ b ∈ fp, H' b = none) ∧ W i n σ' H') ?_ m0 ⟨0, σ, H2, I2, st2, fun b hb => (f2 b hb).1, w0⟩
  rintro n s3 ⟨i, σ3, H3, I3, st3, fr3, w3⟩
  rcases turn i n σ3 H3 w3 with ⟨stop, qn⟩ | ⟨go, N, hN, step⟩
  · refine wpAny_passesOwn hp (thn (T.done X rfl rfl rfl hc i pins s3 σ3 H3 X.xe I3 (stat fr3) st3 stop) fun r s4 ⟨hr, I4⟩ => ?_)
    subst hr
    exact wpAny_execs_nil ⟨σ3, H3, I4, qn⟩
  · refine wpAny_passesOwn hp (thn (T.item X rfl rfl rfl hc i pins s3 σ3 H3 X.xe I3 (stat fr3) st3 go) fun r s4 ⟨u, hr, h4⟩ => ?_)
    subst hr
    refine wpAny_passesOwn hp (thn h4 fun _ s5 ⟨x, H5, I5, r5, y5, st5, fr5⟩ => ?_)
    have I5' := I5.pinned (stat fr5) (T.obj _ _ st5)
    refine wpAny_passesOwn hp (thn (hg _ s5 σ3 H5 x u _ I5' r5 (step x H5 y5)) fun _ s6 ⟨σ6, H6, I6, q6⟩ => ?_)
    refine wpAny_passesOwn hp (thn (hb _ s6 σ6 H6 _ I6 q6) fun f s7 q7 => ?_)
    have again : ∀ {σ7 : St} {H7 : Hp}, Inv X (pins ++ pinsAt fp s5.heap) σ7 H7 s7 → N σ7 H7 → ∃ m, m < n ∧ ∃ i σ' H', Inv X pins σ' H' s7 ∧ tn i s7.heap ∧ (∀ b ∈ fp, H' b = none) ∧ W i m σ' H' := fun {σ7 H7} I7 n7 => by
      obtain ⟨m', hm, w7⟩ := hN σ7 H7 n7
      refine ⟨m', hm, i + 1, σ7, H7, I7.unpinned, T.keep _ _ _ st5 fun b hb o e => (I7.pin (b, o) (List.mem_append_right _ (List.mem_append_right _ (mem_pinsAt hb e)))).1, fun b hb => ?_, w7⟩
      obtain ⟨o, e, d⟩ := T.obj _ _ st5 b hb
      exact (I7.pin (b, o) (List.mem_append_right _ (List.mem_append_right _ (mem_pinsAt hb e)))).2.1
    cases f with
    | next => obtain ⟨σ7, H7, I7, n7⟩ := q7; exact again I7 n7
    | cont => obtain ⟨σ7, H7, I7, n7⟩ := q7; exact again I7 n7
    | brk => obtain ⟨σ7, H7, I7, q7⟩ := q7; exact ⟨σ7, H7, I7.unpinned, q7⟩
    | ret v => obtain ⟨x7, σ7, H7, I7, r7, q7⟩ := q7; exact ⟨x7, σ7, H7, I7.unpinned, r7, q7⟩
end

/-! ### the forms one uses -/
theorem for_range {lo : Int} {n : Nat} {g : TG} {tb : TS} {D : Ends} {σ : St} {H : Hp} (Pv : Nat → St → Hp → Prop) (h0 : Pv 0 σ H)
    (hs : ∀ i σ H, i < n → Pv i σ H → g (.int (lo + i)) σ H fun σ2 H2 => tb { D with nx := Pv (i + 1), ct := Pv (i + 1), bk := D.nx } σ2 H2) (hd : ∀ σ H, Pv n σ H → D.nx σ H) :
    ∃ W : Nat → Nat → St → Hp → Prop, (∃ m, W 0 m σ H) ∧ ∀ i m σ H, W i m σ H →
      ((Itr lo n).stop i H ∧ D.nx σ H) ∨ ((Itr lo n).go i H ∧ ∃ N : St → Hp → Prop, (∀ σ' H', N σ' H' → ∃ m', m' < m ∧ W (i + 1) m' σ' H') ∧ ∀ x H', (Itr lo n).yld i H x H' → g x σ H' fun σ2 H2 => tb { D with nx := N, ct := N, bk := D.nx } σ2 H2) := by
  refine ⟨fun i m σ H => m = n - i ∧ i ≤ n ∧ Pv i σ H, ⟨n, by simp, Nat.zero_le _, h0⟩, ?_⟩
  rintro i m σ H ⟨rfl, hi, p⟩
  by_cases hlt : i < n
  · refine .inr ⟨hlt, Pv (i + 1), fun σ' H' p' => ⟨n - (i + 1), by omega, rfl, hlt, p'⟩, fun x H' y => ?_⟩
    obtain ⟨e, y⟩ := y
    subst e y
    exact hs i σ _ hlt p
  · have e : i = n := by omega
    subst e
    exact .inl ⟨Nat.le_refl _, hd σ H p⟩
end L2

namespace L2
open PySem PySem.Spec PyProof.Rows

noncomputable abbrev R2 := V → V → Hp → VK → Prop
/-- a two-place operation on values: f is binaryOp op, inplaceOp op or compareOp op -/
noncomputable def OpR (X : Cx) (f : Value → Value → Sem Value) (r : R2) : Prop :=
  ∀ (pins : List (Addr × Obj)) (s : Shared) (σ : St) (H : Hp) (x y : V) (v u : Value) (Q : VK), Inv X pins σ H s → RelV x v → RelV y u → r x y H Q →
    wpAny (model X.prog X.w) X.A (f v u) (EP X pins σ Q) X.xe s
/-- a one-place operation -/
noncomputable def UnR (X : Cx) (f : Value → Sem Value) (r : V → Hp → VK → Prop) : Prop :=
  ∀ (pins : List (Addr × Obj)) (s : Shared) (σ : St) (H : Hp) (x : V) (v : Value) (Q : VK), Inv X pins σ H s → RelV x v → r x H Q →
    wpAny (model X.prog X.w) X.A (f v) (EP X pins σ Q) X.xe s
/-- a call of a value that is known (a builtin, a type) with values -/
noncomputable def CallR (X : Cx) (f : Value) (r : List V → Hp → VK → Prop) : Prop :=
  ∀ (pins : List (Addr × Obj)) (s : Shared) (σ : St) (H : Hp) (xs : List V) (us : List Value) (Q : VK), Inv X pins σ H s → Vals xs us → r xs H Q →
    wpAny (model X.prog X.w) X.A (call f us) (EP X pins σ Q) X.xe s
noncomputable def tOp (r : R2) (ta tb : TE) : TE := fun σ H Q => ta σ H fun x H1 => tb σ H1 fun y H2 => r x y H2 Q
noncomputable def tUn (r : V → Hp → VK → Prop) (ta : TE) : TE := fun σ H Q => ta σ H fun x H1 => r x H1 Q
/-- ints in, under C, and a value out -/
noncomputable def rI (C : Int → Int → Prop) (g : Int → Int → V) : R2 := fun x y H Q => ∃ i j, x = .int i ∧ y = .int j ∧ C i j ∧ Q (g i j) H
noncomputable def rI0 (g : Int → Int → V) : R2 := fun x y H Q => ∃ i j, x = .int i ∧ y = .int j ∧ Q (g i j) H
noncomputable def rU (g : Int → V) : V → Hp → VK → Prop := fun x H Q => ∃ i, x = .int i ∧ Q (g i) H

section
variable {X : Cx} {a b c : Expr} {ta tb tc : TE} {pos : Pos}

theorem binT (ha : PE X a ta) (hb : PE X b tb) {pins : List (Addr × Obj)} {s : Shared} {σ : St} {H : Hp} {R : V → V → Hp → Prop} (I : Inv X pins σ H s)
    (h : ta σ H fun x H1 => tb σ H1 fun y H2 => R x y H2) {Q : Value → Shared → Prop} {f : Value → Value → Sem Value}
    (hf : ∀ v u s2 x y H2, Inv X pins σ H2 s2 → RelV x v → RelV y u → R x y H2 → wpAny (model X.prog X.w) X.A (f v u) Q X.xe s2) :
    wpAny (model X.prog X.w) X.A (eval a X.env) (fun v s₁ => wpAny (model X.prog X.w) X.A (eval b X.env) (fun u s₂ => wpAny (model X.prog X.w) X.A (f v u) Q X.xe s₂) X.xe s₁) X.xe s := by
  refine thn (ha pins s σ H _ I h) fun v s1 ⟨x, H1, I1, r1, q1⟩ => ?_
  refine thn (hb pins s1 σ H1 _ I1 q1) fun u s2 ⟨y, H2, I2, r2, q2⟩ => ?_
  exact hf v u s2 x y H2 I2 r1 r2 q2

theorem pe_op {op : Operator} {r : R2} (ho : OpR X (binaryOp op) r) (ha : PE X a ta) (hb : PE X b tb) : PE X (.BinOp a op b pos) (tOp r ta tb) := by
  intro pins s σ H Q I h
  exact wpAny_BinOp (binT ha hb I h fun v u s2 x y H2 I2 rx ry q => ho pins s2 σ H2 x y v u Q I2 rx ry q)
theorem pe_un {op : UnaryOp} {r : V → Hp → VK → Prop} (ho : UnR X (unaryOp op) r) (ha : PE X a ta) : PE X (.UnaryOp op a pos) (tUn r ta) := by
  intro pins s σ H Q I h
  exact UnaryOp_ (thn (ha pins s σ H _ I h) fun v s1 ⟨x, H1, I1, r1, q1⟩ => ho pins s1 σ H1 x v Q I1 r1 q1)
/-! ### ints -/
theorem opI {f : Value → Value → Sem Value} {C : Int → Int → Prop} {g : Int → Int → Int}
    (rule : ∀ (i j : Int) (t u : Tok) (s : Shared) (Q : Value → Shared → Prop) (E : Value → Shared → Prop), C i j → Q (.int (g i j) s.toks) { s with toks := s.toks + 1 } → wpAny (model X.prog X.w) X.A (f (.int i t) (.int j u)) Q E s) :
    OpR X f (rI C fun i j => .int (g i j)) := by
  intro pins s σ H x y v u Q I rx ry h
  obtain ⟨i, j, rfl, rfl, hc, q⟩ := h
  obtain ⟨t, rfl⟩ := rx
  obtain ⟨t', rfl⟩ := ry
  exact rule i j t t' s _ _ hc ⟨.int (g i j), H, I.tok _, ⟨_, rfl⟩, q⟩
theorem opI0 {f : Value → Value → Sem Value} {g : Int → Int → Int}
    (rule : ∀ (i j : Int) (t u : Tok) (s : Shared) (Q : Value → Shared → Prop) (E : Value → Shared → Prop), Q (.int (g i j) s.toks) { s with toks := s.toks + 1 } → wpAny (model X.prog X.w) X.A (f (.int i t) (.int j u)) Q E s) :
    OpR X f (rI0 fun i j => .int (g i j)) := by
  intro pins s σ H x y v u Q I rx ry h
  obtain ⟨i, j, rfl, rfl, q⟩ := h
  obtain ⟨t, rfl⟩ := rx
  obtain ⟨t', rfl⟩ := ry
  exact rule i j t t' s _ _ ⟨.int (g i j), H, I.tok _, ⟨_, rfl⟩, q⟩
theorem opB0 {f : Value → Value → Sem Value} {g : Int → Int → Bool}
    (rule : ∀ (i j : Int) (t u : Tok) (s : Shared) (Q : Value → Shared → Prop) (E : Value → Shared → Prop), Q (.bool (g i j)) s → wpAny (model X.prog X.w) X.A (f (.int i t) (.int j u)) Q E s) :
    OpR X f (rI0 fun i j => .bl (g i j)) := by
  intro pins s σ H x y v u Q I rx ry h
  obtain ⟨i, j, rfl, rfl, q⟩ := h
  obtain ⟨t, rfl⟩ := rx
  obtain ⟨t', rfl⟩ := ry
  exact rule i j t t' s _ _ ⟨.bl (g i j), H, I, rfl, q⟩

noncomputable def CPow (i j : Int) : Prop := 0 ≤ j ∧ j ≤ 1000000 ∧ i.natAbs < 2 ^ 64
noncomputable def CMul (i j : Int) : Prop := (-(2 ^ 64) < i ∧ i < 2 ^ 64) ∨ (-(2 ^ 64) < j ∧ j < 2 ^ 64)
theorem CMul.ok {i j : Int} (h : CMul i j) : IntMulOk i j := by
  rcases h with ⟨h1, h2⟩ | ⟨h1, h2⟩
  · exact .of_left (intBits_le_64 h1 h2)
  · exact .of_right (intBits_le_64 h1 h2)
theorem op_add : OpR X (binaryOp .Add) (rI0 fun i j => .int (i + j)) := opI0 fun _ _ _ _ _ _ _ q => add_int q
theorem op_sub : OpR X (binaryOp .Sub) (rI0 fun i j => .int (i - j)) := opI0 fun _ _ _ _ _ _ _ q => sub_int q
theorem op_mul : OpR X (binaryOp .Mult) (rI CMul fun i j => .int (i * j)) := opI fun _ _ _ _ _ _ _ hc q => mul_int q hc.ok
/-- % by a positive divisor of any size -/
theorem op_mod : OpR X (binaryOp .Mod) (rI (fun _ j => 0 < j) fun i j => .int (i % j)) := opI fun i j _ _ _ _ _ hc q => by
  have h1 : (0 : Int) < j := hc
  exact mod_int' (by omega) (by rw [Int.fmod_eq_emod_of_nonneg i (by omega)]; exact q)
theorem op_pow : OpR X (binaryOp .Pow) (rI CPow fun i j => .int (i ^ j.toNat)) := opI fun _ _ _ _ _ _ _ hc q => pow_int_small hc.1 hc.2.1 hc.2.2 q
theorem unI {f : Value → Sem Value} {g : Int → Int}
    (rule : ∀ (i : Int) (t : Tok) (s : Shared) (Q : Value → Shared → Prop) (E : Value → Shared → Prop), Q (.int (g i) s.toks) { s with toks := s.toks + 1 } → wpAny (model X.prog X.w) X.A (f (.int i t)) Q E s) :
    UnR X f (rU fun i => .int (g i)) := by
  intro pins s σ H x v Q I rx h
  obtain ⟨i, rfl, q⟩ := h
  obtain ⟨t, rfl⟩ := rx
  exact rule i t s _ _ ⟨.int (g i), H, I.tok _, ⟨_, rfl⟩, q⟩
theorem un_neg : UnR X (unaryOp .USub) (rU fun i => .int (-i)) := unI fun _ _ _ _ _ q => neg_int q
/-! ### bools among ints: n += (a < b) -/
end

/-! ### comparisons -/
/-- the scalars that == tells apart as data does -/
noncomputable def scal : V → V → Bool
  | .non, .non => true | .non, .int _ => true | .int _, .non => true | .non, .bl _ => true | .bl _, .non => true | .non, .str _ => true | .str _, .non => true
  | .int _, .int _ => true | .bl _, .bl _ => true | .str _, .str _ => true | .byt _, .byt _ => true
  | .int _, .str _ => true | .str _, .int _ => true | .bl _, .str _ => true | .str _, .bl _ => true
  | _, _ => false
noncomputable def rEq : R2 := fun x y H Q => scal x y = true ∧ Q (.bl (decide (x = y))) H
noncomputable def rNe : R2 := fun x y H Q => scal x y = true ∧ Q (.bl (!decide (x = y))) H

theorem dec_int {i j : Int} : decide (V.int i = V.int j) = (i == j) := by
  rw [Bool.eq_iff_iff]
  simp
theorem dec_bl {i j : Bool} : decide (V.bl i = V.bl j) = (i == j) := by
  rw [Bool.eq_iff_iff]
  simp
theorem dec_str {i j : Str} : decide (V.str i = V.str j) = (i == j) := by
  rw [Bool.eq_iff_iff]
  simp
theorem dec_byt {i j : Array UInt8} : decide (V.byt i = V.byt j) = (i.toList == j.toList) := by
  rw [Bool.eq_iff_iff]
  cases i
  cases j
  simp

section
variable {X : Cx} {a b c : Expr} {ta tb tc : TE} {pos : Pos}
theorem fin_bl {pins : List (Addr × Obj)} {σ : St} {H : Hp} {s : Shared} {Q : VK} {k k' : Bool} (I : Inv X pins σ H s) (q : Q (.bl k) H) (e : k = k') : EP X pins σ Q (.bool k') s := by
  subst e
  exact ⟨.bl k, H, I, rfl, q⟩
theorem op_eq : OpR X (compareOp .Eq) rEq := by
  intro pins s σ H x y v u Q I rx ry h
  obtain ⟨hs, q⟩ := h
  cases x with
  | non =>
    cases rx
    cases y with
    | non => cases ry; exact PySem.EqNone.eq_none_none (fin_bl I q (by simp))
    | bl j => cases ry; exact PySem.EqNone.eq_none_bool (fin_bl I q (by simp))
    | int j => obtain ⟨t', rfl⟩ := ry; exact PySem.EqNone.eq_none_int (fin_bl I q (by simp))
    | str j => obtain ⟨t', rfl⟩ := ry; exact PySem.EqNone.eq_none_str (fin_bl I q (by simp))
    | _ => exact absurd (show false = true from hs) Bool.false_ne_true
  | bl i =>
    cases rx
    cases y with
    | non => cases ry; exact PySem.EqNone.eq_bool_none (fin_bl I q (by simp))
    | bl j => cases ry; exact eq_bool (fin_bl I q dec_bl)
    | str j => obtain ⟨t', rfl⟩ := ry; exact PySem.EqMixed.eq_bool_str (fin_bl I q (by simp))
    | _ => exact absurd (show false = true from hs) Bool.false_ne_true
  | int i =>
    obtain ⟨t, rfl⟩ := rx
    cases y with
    | non => cases ry; exact PySem.EqNone.eq_int_none (fin_bl I q (by simp))
    | int j => obtain ⟨t', rfl⟩ := ry; exact eq_int (fin_bl I q dec_int)
    | str j => obtain ⟨t', rfl⟩ := ry; exact PySem.EqMixed.eq_int_str (fin_bl I q (by simp))
    | _ => exact absurd (show false = true from hs) Bool.false_ne_true
  | str i =>
    obtain ⟨t, rfl⟩ := rx
    cases y with
    | non => cases ry; exact PySem.EqNone.eq_str_none (fin_bl I q (by simp))
    | bl j => cases ry; exact PySem.EqMixed.eq_str_bool (fin_bl I q (by simp))
    | int j => obtain ⟨t', rfl⟩ := ry; exact PySem.EqMixed.eq_str_int (fin_bl I q (by simp))
    | str j => obtain ⟨t', rfl⟩ := ry; exact eq_str (fin_bl I q dec_str)
    | _ => exact absurd (show false = true from hs) Bool.false_ne_true
  | byt i =>
    obtain ⟨t, rfl⟩ := rx
    cases y with
    | byt j => obtain ⟨t', rfl⟩ := ry; exact PySem.W.eq_bytes (fin_bl I q dec_byt)
    | _ => exact absurd (show false = true from hs) Bool.false_ne_true
  | _ => cases y <;> exact absurd (show false = true from hs) Bool.false_ne_true
theorem op_ne : OpR X (compareOp .NotEq) rNe := by
  intro pins s σ H x y v u Q I rx ry h
  obtain ⟨hs, q⟩ := h
  cases x with
  | non =>
    cases rx
    cases y with
    | non => cases ry; exact PySem.EqNone.ne_none_none (fin_bl I q (by simp))
    | bl j => cases ry; exact PySem.EqNone.ne_none_bool (fin_bl I q (by simp))
    | int j => obtain ⟨t', rfl⟩ := ry; exact PySem.EqNone.ne_none_int (fin_bl I q (by simp))
    | str j => obtain ⟨t', rfl⟩ := ry; exact PySem.EqNone.ne_none_str (fin_bl I q (by simp))
    | _ => exact absurd (show false = true from hs) Bool.false_ne_true
  | bl i =>
    cases rx
    cases y with
    | non => cases ry; exact PySem.EqNone.ne_bool_none (fin_bl I q (by simp))
    | bl j => cases ry; exact ne_bool (fin_bl I q (congrArg not dec_bl))
    | str j => obtain ⟨t', rfl⟩ := ry; exact PySem.EqMixed.ne_bool_str (fin_bl I q (by simp))
    | _ => exact absurd (show false = true from hs) Bool.false_ne_true
  | int i =>
    obtain ⟨t, rfl⟩ := rx
    cases y with
    | non => cases ry; exact PySem.EqNone.ne_int_none (fin_bl I q (by simp))
    | int j => obtain ⟨t', rfl⟩ := ry; exact ne_int (fin_bl I q (congrArg not dec_int))
    | str j => obtain ⟨t', rfl⟩ := ry; exact PySem.EqMixed.ne_int_str (fin_bl I q (by simp))
    | _ => exact absurd (show false = true from hs) Bool.false_ne_true
  | str i =>
    obtain ⟨t, rfl⟩ := rx
    cases y with
    | non => cases ry; exact PySem.EqNone.ne_str_none (fin_bl I q (by simp))
    | bl j => cases ry; exact PySem.EqMixed.ne_str_bool (fin_bl I q (by simp))
    | int j => obtain ⟨t', rfl⟩ := ry; exact PySem.EqMixed.ne_str_int (fin_bl I q (by simp))
    | str j => obtain ⟨t', rfl⟩ := ry; exact ne_str (fin_bl I q (congrArg not dec_str))
    | _ => exact absurd (show false = true from hs) Bool.false_ne_true
  | byt i =>
    obtain ⟨t, rfl⟩ := rx
    cases y with
    | byt j => obtain ⟨t', rfl⟩ := ry; exact PySem.W.ne_bytes (fin_bl I q (congrArg not dec_byt))
    | _ => exact absurd (show false = true from hs) Bool.false_ne_true
  | _ => cases y <;> exact absurd (show false = true from hs) Bool.false_ne_true

theorem op_lt : OpR X (compareOp .Lt) (rI0 fun i j => .bl (decide (i < j))) := opB0 fun _ _ _ _ _ _ _ q => lt_int q
theorem op_gt : OpR X (compareOp .Gt) (rI0 fun i j => .bl (decide (j < i))) := opB0 fun _ _ _ _ _ _ _ q => gt_int q
theorem nomark (b : Expr) {op : CmpOp} (h : op ≠ .In := by decide) (h2 : op ≠ .NotIn := by decide) : behindInMarks op b = false := by
  have e1 : (op == CmpOp.In) = false := by cases op <;> first | rfl | exact absurd rfl h
  have e2 : (op == CmpOp.NotIn) = false := by cases op <;> first | rfl | exact absurd rfl h2
  cases b <;> simp [behindInMarks, e1, e2]
/-- a comparison as a value; hm: nomark b, or (for in, not in) by with_unfolding_all rfl -/
theorem pe_cmpR {op : CmpOp} {r : R2} (ho : OpR X (compareOp op) r) (ha : PE X a ta) (hb : PE X b tb) (hm : behindInMarks op b = false) : PE X (.Compare a [op] [b] pos) (tOp r ta tb) := by
  intro pins s σ H Q I h
  exact wpAny_Compare1 (binT ha hb I h fun v u s2 x y H2 I2 rx ry q => ho pins s2 σ H2 x y v u Q I2 rx ry q) hm
/-- a reading of a value as a test -/
noncomputable def tTest (t : TE) : TT := fun σ H Q => t σ H fun x H' => ∃ k, x = .bl k ∧ Q k H'
theorem pt_cmpR {op : CmpOp} {r : R2} (ho : OpR X (compareOp op) r) (ha : PE X a ta) (hb : PE X b tb) (hm : behindInMarks op b = false) : PT X (.Compare a [op] [b] pos) (tTest (tOp r ta tb)) := by
  intro pins s σ H Q I h
  refine wpAny_isTrue_Compare1 (thn (ha pins s σ H _ I h) fun v s1 ⟨x, H1, I1, r1, q1⟩ => thn (hb pins s1 σ H1 _ I1 q1) fun u s2 ⟨y, H2, I2, r2, q2⟩ =>
    thn (ho pins s2 σ H2 x y v u _ I2 r1 r2 q2) fun c s3 ⟨z, H3, I3, r3, k, e, q3⟩ => ?_) hm
  subst e
  cases r3
  exact wpAny_truthy_bool ⟨H3, I3, q3⟩
/-! ### truth -/
theorem line63 : (sizeLine : Nat) < 2 ^ 63 := by rw [sizeLine_eq]; decide
/-! ### strs and bytes -/
theorem op_add_str : OpR X (binaryOp .Add) (fun x y H Q => ∃ i j, x = .str i ∧ y = .str j ∧ i.length + j.length ≤ sizeLine ∧ Q (.str (i ++ j)) H) := by
  intro pins s σ H x y v u Q I rx ry h
  obtain ⟨i, j, rfl, rfl, hz, q⟩ := h
  obtain ⟨t, rfl⟩ := rx
  obtain ⟨t', rfl⟩ := ry
  exact add_str (fun t' tk => ⟨.str (i ++ j), H, I.tok _, ⟨_, rfl⟩, q⟩) hz
/-! ### scalar builtins, by CallR -/
theorem vals1 {x : V} {us : List Value} (r : Vals [x] us) : ∃ u, us = [u] ∧ RelV x u := by
  cases r with
  | cons r1 r2 => cases r2; exact ⟨_, rfl, r1⟩
theorem vals2 {x y : V} {us : List Value} (r : Vals [x, y] us) : ∃ u w', us = [u, w'] ∧ RelV x u ∧ RelV y w' := by
  cases r with
  | cons r1 r2 =>
    cases r2 with
    | cons r3 r4 => cases r4; exact ⟨_, _, rfl, r1, r3⟩
end
end L2

namespace L2
open PySem PySem.Spec PyProof.Rows

/-! ### an instance, its attributes a map -/
structure ObjM (h : Heap) (x dx C : Addr) (mA : Str → Option Value) : Prop where
  obj : h.get? x = some (PySem.W.instObj C dx)
  ns : h.Ns1 dx mA
  ne : dx ≠ x

theorem lookIn_ns {h : Heap} {dx : Addr} {mA : Str → Option Value} (n : h.Ns1 dx mA) : ∃ od, h.get? dx = some od ∧ ∀ name, PySem.W.lookIn name od = some (mA name) := by
  obtain ⟨o, es, ep, ho, hd, hk, _, hm⟩ := n
  refine ⟨o, ho, fun name => ?_⟩
  have e := hm name
  unfold nsFind findBy at e
  rw [← Array.find?_toList] at e
  unfold PySem.W.lookIn
  rw [hd]
  dsimp only
  split
  · rename_i y q
    rw [q] at e
    exact congrArg some e
  · rename_i q
    rw [q] at e
    have a : es.toList.any (·.refKey) = false := by
      rw [List.any_eq_false]
      intro y hy
      obtain ⟨z, t, hkey⟩ := hk y (Array.mem_toList_iff.mp hy)
      simp [DictEntry.refKey, hkey]
    have a' : ¬ es.toList.any (·.refKey) = true := by rw [a]; exact Bool.false_ne_true
    rw [if_neg a']
    exact congrArg some e

theorem ObjM.look {h : Heap} {x dx C : Addr} {mA : Str → Option Value} (I : ObjM h x dx C mA) : ∃ od, PySem.W.InstAt h x (PySem.W.instObj C dx) C (some od) ∧ ∀ name, PySem.W.lookIn name od = some (mA name) :=
  let ⟨od, ho, hl⟩ := lookIn_ns I.ns
  ⟨od, ⟨I.obj, rfl, rfl, ho⟩, hl⟩

section
variable {prog : Program} {w : World} {A : Around} {E : Value → Shared → Prop} {s : Shared} {K : PySem.W.Frag} {x dx C f : Addr} {mA : Str → Option Value} {name : Str} {v : Value}

theorem get_meth {pl : Sem Bool} {Q : Value × List Value → Shared → Prop} (X : K.In s.heap) (I : ObjM s.heap x dx C mA) (hg : PySem.W.plainGet K C name = true)
    (hf : PySem.W.findIn K (.ref C) name = some (some (.ref f))) (ht : PySem.W.isFn K (.ref f) = true) (hv : mA name = none) (h : Q (.ref f, [.ref x]) s) :
    wpAny (model prog w) A (getMethod (.ref x) name pl) Q E s := by
  obtain ⟨od, J, hl⟩ := I.look
  exact PySem.W.method_fn X J (PySem.W.plainGet_of hg).1 (PySem.W.plainGet_of hg).2 hf (beq_iff_eq.mp ht) (by show (PySem.W.lookIn name od).map (·.isSome) = some false; rw [hl, hv]; rfl) h

theorem set_map {ns : List Str} {Q : Unit → Shared → Prop} (X : K.In s.heap) (I : ObjM s.heap x dx C mA)
    (hs : PySem.W.findIn K (.ref C) "__setattr__" = some (some (.builtin "object.__setattr__"))) (hp : PySem.W.plainOver K C = true) (ht : PySem.W.takerIn K C name = some none) (hh : PySem.W.hasDictIn K C = true)
    (hw : PySem.Within mA ns) (hsz : ns.length ≤ sizeLine)
    (h : ∀ h', ObjM h' x dx C (fun y => if y = name then some v else mA y) → Heap.SameBut dx s.heap h' → Q () { s with heap := h', toks := s.toks + 2 }) :
    wpAny (model prog w) A (setAttr (.ref x) name v) Q E s := by
  obtain ⟨od, J, hl⟩ := I.look
  refine PySem.W.set_plain X J hs (PySem.W.osa_open (s := { s with toks := s.toks + 1 }) (r := none) X J hp ht fun b => ?_)
  obtain ⟨cd, hc, hd'⟩ := PySem.W.any_some hh
  have hx : s.heap.get? x = some ⟨.ref C, some dx, .plain, #[]⟩ := I.obj
  refine wpAny_bind (wpAny_pure (wpAny_bind (wpAny_bind (wpAny_loadPart hx (wpAny_bind (PySem.W.Looks.here (s := { s with toks := s.toks + 1 }) (PySem.W.looks_clsIn X hc) ?_))))))
  rw [hd']
  refine wpAny_pure (a := some dx) (wpAny_bind (wpAny_pure (wpAny_bind ?_)))
  refine wpAny_nsSet1 (s := { s with toks := s.toks + 1 }) I.ns fun h' hn2 hs2 => ?_
  obtain ⟨oD, esD, epD, hoD, hdD, hcD⟩ := hn2.count (PySem.Within.cons name v hw)
  refine wpAny_bind (wpAny_lookBehind hoD (by rw [hdD]; exact pastItsLine_dict (Nat.le_trans hcD (by rw [List.length_cons]; omega))) ?_)
  exact wpAny_pure (h _ ⟨(hs2.2 _ (Ne.symm I.ne)).trans I.obj, hn2, I.ne⟩ hs2)

/-- C(..): the dict at the heap's end, the instance behind it; then its __init__ -/
theorem make_map {R : Result → Shared → Prop} {vs : List Value} {kw : List (Str × Value)} (X : K.In s.heap) (hm : PySem.W.makesIn K C = true)
    (hi : PySem.W.findIn K (.ref C) "__init__" = some (some (.ref f))) (hf : PySem.W.typeIn K (.ref f) = some (.type "function"))
    (h : codeAny (model prog w) (A.under (.builtin "type.__call__" ⟨.ref C :: vs, kw⟩)) (.call (.ref f) ⟨.ref (s.heap.objs.size + 1) :: vs, kw⟩) (PySem.W.InitBack (s.heap.objs.size + 1) R)
      { s with heap := (s.heap.push PySem.W.emptyDict).push (PySem.W.instObj C s.heap.objs.size) }) :
    codeAny (model prog w) A (.call (.ref C) ⟨vs, kw⟩) R s := by
  obtain ⟨hh, g, d, t, os⟩ := s
  exact PySem.W.make_core (PySem.W.makes_of X hm) (PySem.W.looks_findIn X hi) (fun self => PySem.W.bind_fn X self hf) (.inl rfl) h
end

/-! ### the attributes as a list of pairs -/
noncomputable def putF (f : Str) (v : V) : List (Str × V) → List (Str × V)
  | [] => [(f, v)]
  | (g, x) :: r => if g = f then (g, v) :: r else (g, x) :: putF f v r
theorem lookup_putF (f g : Str) (v : V) : ∀ fs : List (Str × V), (putF f v fs).lookup g = if g = f then some v else fs.lookup g
  | [] => by
    show List.lookup g [(f, v)] = _
    by_cases h : g = f
    · have hb : (g == f) = true := beq_iff_eq.mpr h
      simp only [List.lookup, hb, if_pos h]
    · have hb : (g == f) = false := beq_eq_false_iff_ne.mpr h
      simp only [List.lookup, hb, if_neg h]
  | (k, x) :: r => by
    have ih := lookup_putF f g v r
    rw [show putF f v ((k, x) :: r) = (if k = f then (k, v) :: r else (k, x) :: putF f v r) from rfl]
    by_cases hk : k = f
    · rw [if_pos hk]
      by_cases h : g = k
      · have hb : (g == k) = true := beq_iff_eq.mpr h
        simp only [List.lookup, hb, if_pos (h.trans hk)]
      · have hb : (g == k) = false := beq_eq_false_iff_ne.mpr h
        simp only [List.lookup, hb, if_neg (fun e : g = f => h (e.trans hk.symm))]
    · rw [if_neg hk]
      by_cases h : g = k
      · have hb : (g == k) = true := beq_iff_eq.mpr h
        simp only [List.lookup, hb, if_neg (fun e : g = f => hk (h.symm.trans e))]
      · have hb : (g == k) = false := beq_eq_false_iff_ne.mpr h
        simp only [List.lookup, hb]
        exact ih
theorem keys_putF (f : Str) (v : V) : ∀ fs : List (Str × V), f ∈ (putF f v fs).map (·.1) ∧ ∀ g, g ∈ fs.map (·.1) → g ∈ (putF f v fs).map (·.1)
  | [] => ⟨by simp [putF], fun g h => by simp at h⟩
  | (k, x) :: r => by
    obtain ⟨i1, i2⟩ := keys_putF f v r
    rw [show putF f v ((k, x) :: r) = (if k = f then (k, v) :: r else (k, x) :: putF f v r) from rfl]
    by_cases hk : k = f
    · rw [if_pos hk]
      subst hk
      exact ⟨by simp, fun g h => by simpa using h⟩
    · rw [if_neg hk]
      refine ⟨?_, fun g h => ?_⟩
      · rw [List.map_cons]
        exact List.mem_cons_of_mem _ i1
      · rw [List.map_cons] at h ⊢
        rcases List.mem_cons.mp h with e | e
        · exact List.mem_cons.mpr (.inl e)
        · exact List.mem_cons_of_mem _ (i2 g e)
theorem length_putF (f : Str) (v : V) : ∀ fs : List (Str × V), (putF f v fs).length ≤ fs.length + 1
  | [] => by simp [putF]
  | (k, x) :: r => by
    have ih := length_putF f v r
    rw [show putF f v ((k, x) :: r) = (if k = f then (k, v) :: r else (k, x) :: putF f v r) from rfl]
    by_cases hk : k = f
    · rw [if_pos hk, List.length_cons, List.length_cons]; omega
    · rw [if_neg hk, List.length_cons, List.length_cons]; omega

theorem RelO.none_of {o : Option Value} (r : RelO none o) : o = none := by
  cases o with
  | none => rfl
  | some u => exact (show False from r).elim
section
variable {P : Program} {w : World} {H H' : Hp} {h h' : Heap} {a C dx : Addr} {fs fs' : List (Str × V)}
theorem ins_get (hok : HOk P w H h) (e : H a = some (.ins C dx fs)) : ∃ mA, ObjM h a dx C mA ∧ (∀ f, RelO (fs.lookup f) (mA f)) ∧ PySem.Within mA (fs.map (·.1)) ∧ fs.length ≤ 1000 ∧ H dx = some (.own a) := by
  obtain ⟨d, z, ne, ob, mA, n, r, q⟩ := (show ObjOk P w H h a (.ins C dx fs) from hok a _ e)
  exact ⟨mA, ⟨ob, n, ne⟩, r, q, z, d⟩
end

/-! ### what of the text a class must have -/
structure Cls (K : PySem.W.Frag) (C : Addr) : Prop where
  pg : PySem.W.plainGet K C Str.empty = true
  hd : PySem.W.hasDictIn K C = true
  po : PySem.W.plainOver K C = true
  sa : PySem.W.findIn K (.ref C) "__setattr__" = some (some (.builtin "object.__setattr__"))
theorem Cls.get {K : PySem.W.Frag} {C : Addr} (c : Cls K C) (f : Str) : PySem.W.plainGet K C f = true := c.pg
/-- no class of it has the name -/
noncomputable def NoAttr (K : PySem.W.Frag) (C : Addr) (f : Str) : Prop := PySem.W.findIn K (.ref C) f = some none
theorem NoAttr.taker {K : PySem.W.Frag} {C : Addr} {f : Str} (n : NoAttr K C f) : PySem.W.takerIn K C f = some none := by
  unfold PySem.W.takerIn
  rw [show PySem.W.findIn K (.ref C) f = some none from n]
  rfl
/-- a method: a plain def of the class or of one above it -/
structure Meth (K : PySem.W.Frag) (C : Addr) (m : Str) (f : Addr) : Prop where
  at_ : PySem.W.findIn K (.ref C) m = some (some (.ref f))
  fn : PySem.W.isFn K (.ref f) = true
  kp : PySem.W.keepIn K (.ref f) = true

section
variable {X : Cx} {pins : List (Addr × Obj)} {σ : St} {H : Hp} {s : Shared} {a C dx : Addr} {fs : List (Str × V)} {f : Str} {v : V} {A : Around} {E : Value → Shared → Prop}

theorem getmeth_ok {m : Str} {g : Addr} {pl : Sem Bool} {Q : Value × List Value → Shared → Prop} (I : Inv X pins σ H s) (e : H a = some (.ins C dx fs)) (c : Cls X.K C) (k : Meth X.K C m g) (l : fs.lookup m = none)
    (h : Q (.ref g, [.ref a]) s) : wpAny (model X.prog X.w) A (getMethod (.ref a) m pl) Q E s := by
  obtain ⟨mA, O, r, _, _, _⟩ := ins_get I.hok e
  have hn : mA m = none := RelO.none_of (by rw [← l]; exact r m)
  exact get_meth I.kIn O (c.get m) k.at_ k.fn hn h

theorem setattr_ok {y : V} {u : Value} {Q : Unit → Shared → Prop} (I : Inv X pins σ H s) (e : H a = some (.ins C dx fs)) (c : Cls X.K C) (n : NoAttr X.K C f) (hl : fs.length < 1000) (ry : RelV y u)
    (h : ∀ s', Inv X pins σ (upd H a (.ins C dx (putF f y fs))) s' → Q () s') : wpAny (model X.prog X.w) A (setAttr (.ref a) f u) Q E s := by
  obtain ⟨mA, O, r, wi, _, ho⟩ := ins_get I.hok e
  have hz : (fs.map (·.1)).length ≤ sizeLine := by rw [List.length_map, sizeLine_eq]; omega
  refine set_map I.kIn O c.sa c.po n.taker c.hd wi hz fun h' O' sb => h _ ?_
  have hd : ∃ o, h'.get? dx = some o := let ⟨o, _, _, e', _⟩ := O'.ns; ⟨o, e'⟩
  refine I.write (x := a) (e := dx) (by rw [e]; exact True.intro) (.inr ho) (fun b q hb z => (sb.2 b hb).trans z) hd ?_
  refine ⟨by rw [upd_ne O.ne]; exact ho, ?_, O.ne, O'.obj, _, O'.ns, fun g => ?_, fun g hg => ?_⟩
  · have := length_putF f y fs; omega
  · show RelO ((putF f y fs).lookup g) (if g = f then some u else mA g)
    rw [lookup_putF]
    by_cases q : g = f
    · rw [if_pos q, if_pos q]; exact ry
    · rw [if_neg q, if_neg q]; exact r g
  · by_cases q : g = f
    · rw [q]; exact (keys_putF f y fs).1
    · refine (keys_putF f y fs).2 g (wi g fun z => hg ?_)
      show (if g = f then some u else mA g) = none
      rw [if_neg q]; exact z

/-- a new instance, tracked, without attributes -/
theorem Inv.made (I : Inv X pins σ H s) : Inv X pins σ (upd (upd H s.heap.objs.size (.own (s.heap.objs.size + 1))) (s.heap.objs.size + 1) (.ins C s.heap.objs.size []))
    { s with heap := (s.heap.push PySem.W.emptyDict).push (PySem.W.instObj C s.heap.objs.size) } := by
  have e1 : (s.heap.push PySem.W.emptyDict).get? s.heap.objs.size = some PySem.W.emptyDict := Heap.get?_push_size s.heap rfl
  have e2 : ((s.heap.push PySem.W.emptyDict).push (PySem.W.instObj C s.heap.objs.size)).get? (s.heap.objs.size + 1) = some (PySem.W.instObj C s.heap.objs.size) := by
    have := Heap.get?_push_size (s.heap.push PySem.W.emptyDict) (o := PySem.W.instObj C s.heap.objs.size) rfl
    rwa [Heap.size_push] at this
  have e3 : (s.heap.push PySem.W.emptyDict).Ns s.heap.objs.size (fun _ => none) := ⟨PySem.W.emptyDict, #[], _, e1, rfl, (fun e he => absurd he (by simp)), fun _ => rfl⟩
  have I1 := I.laid (a := s.heap.objs.size) (o := .own (s.heap.objs.size + 1)) (h' := s.heap.push PySem.W.emptyDict) (t' := s.toks) (fun b u q => Heap.get?_push_of_some _ q) (Nat.le_refl _) ⟨_, e1⟩
  refine I1.laid (a := s.heap.objs.size + 1) (o := .ins C s.heap.objs.size []) (t' := s.toks) (fun b u q => Heap.get?_push_of_some _ q) (Nat.le_of_eq (Heap.size_push _ _)) ?_
  have ne : s.heap.objs.size ≠ s.heap.objs.size + 1 := Nat.ne_of_lt (Nat.lt_succ_self _)
  refine ⟨by rw [upd_ne ne, upd_same], Nat.zero_le _, ne, e2, fun _ => none, (Heap.Ns1.of_empty e3).at fun o q => Heap.get?_push_of_some _ q, fun _ => True.intro, fun y hy => absurd rfl hy⟩

end

/-! ### readings and rules -/
/-- e.f = value -/
noncomputable def sFld (K : PySem.W.Frag) (ta tv : TE) (f : Str) : TS := fun D σ H => tv σ H fun y H1 => ta σ H1 fun x H2 => ∃ a C dx fs, x = .ref a ∧ H2 a = some (.ins C dx fs) ∧ Cls K C ∧ NoAttr K C f ∧ fs.length < 1000 ∧
  D.nx σ (upd H2 a (.ins C dx (putF f y fs)))
section
variable {X : Cx} {o e value : Expr} {f : Str} {pos pos' tpos : Pos} {ta tv : TE}
theorem ps_fld (ha : PE X o ta) (hv : PE X value tv) (hs : swapsWith value (some (.Attribute o f pos')) pos.line X.env = pure false) : PS X (.Assign [.Attribute o f pos'] value pos) (sFld X.K ta tv f) := by
  intro pins s σ H D I h
  refine plainObj_wpAny_Assign_Attribute (thn (hv pins s σ H _ I h) fun u s1 ⟨y, H1, I1, ry, q⟩ => thn (ha pins s1 σ H1 _ I1 q) fun ov s2 ⟨x, H2, I2, rx, a, C, dx, fs, ex, ea, c, n, l, q2⟩ => ?_) hs
  subst ex
  obtain rfl : ov = Value.ref a := rx
  exact setattr_ok I2 ea c n l ry fun s3 I3 => ⟨σ, _, I3, q2⟩
/-- what is between an instance and its method: the tree of a method call -/
theorem methcall_of {pl : Sem Bool} {m : Str} {apos : Pos} {args : List Expr} {pins : List (Addr × Obj)} {s : Shared} {σ : St} {H : Hp} {Q : Value → Shared → Prop} {te : TE} (he : PE X e te) (I : Inv X pins σ H s)
    (h : te σ H fun x H1 => ∃ a C dx fs g, x = .ref a ∧ H1 a = some (.ins C dx fs) ∧ Cls X.K C ∧ Meth X.K C m g ∧ fs.lookup m = none ∧
      ∀ s1, Inv X pins σ H1 s1 → wpAny (model X.prog X.w) X.A (callWith pos (.ref g) [.ref a] (backTo pos (starEach args X.env)) (backToKw pos (keywordEach [] X.env))) Q X.xe s1)
    (ht : eval (.Call (.Attribute e m apos) args [] pos) X.env = (do
      let ov ← eval e X.env
      standAt apos.atName
      let (f, first) ← holding [ov] (getMethod ov m pl)
      callWith pos f first (backTo pos (starEach args X.env)) (backToKw pos (keywordEach [] X.env)))) :
    wpAny (model X.prog X.w) X.A (eval (.Call (.Attribute e m apos) args [] pos) X.env) Q X.xe s := by
  refine PySem.W.methodCall_KW (pl := pl) (thn (he pins s σ H _ I h) fun u s1 ⟨x, H1, I1, rx, a, C, dx, fs, g, ex, ea, c, k, l, q⟩ => ?_) ht
  subst ex
  obtain rfl : u = Value.ref a := rx
  exact getmeth_ok I1 ea c k l (q s1 I1)
end

/-! ### isinstance -/
section
variable {X : Cx} {pins : List (Addr × Obj)} {σ : St} {H : Hp} {s : Shared} {A : Around} {E : Value → Shared → Prop} {Q : Value → Shared → Prop} {c : Value} {b : Bool}
/-- the type of a value, as the fragment's deciders take it; for an instance its class -/
inductive TyOf (K : PySem.W.Frag) (H : Hp) : V → Value → Prop where
  | non : TyOf K H .non (.type "NoneType")
  | bl (x : Bool) : TyOf K H (.bl x) (.type "bool")
  | int (i : Int) : TyOf K H (.int i) (.type "int")
  | str (x : Str) : TyOf K H (.str x) (.type "str")
  | flt (x : UInt64) : TyOf K H (.flt x) (.type "float")
  | lst {a : Addr} {xs : List V} (e : H a = some (.lst xs)) : TyOf K H (.ref a) (.type "list")
  | frz {a : Addr} {o : Obj} {xs : List V} (e : H a = some (.frz o (.lst xs))) : TyOf K H (.ref a) (.type "list")
  | tup {a : Addr} {xs : List V} (e : H a = some (.tup xs)) : TyOf K H (.ref a) (.type "tuple")
  | dK {a : Addr} {kvs : List (Key × V)} (e : H a = some (.dK kvs)) : TyOf K H (.ref a) (.type "dict")
  | dT {a : Addr} {kvs : List (List Key × V)} (e : H a = some (.dT kvs)) : TyOf K H (.ref a) (.type "dict")
  | ins {a C dx : Addr} {fs : List (Str × V)} (e : H a = some (.ins C dx fs)) (cl : Cls K C) (ha : PySem.W.findIn K (.ref C) "__class__" = some (some (.builtin "object.__class__")))
      (hn : PySem.W.specialIn K (.builtin "object.__class__") "__get__" = some (some (.builtin "getset_descriptor.__get__"))) (htk : PySem.W.takesIn K (.builtin "object.__class__") = some true)
      (hm : PySem.W.mroIn K C (.type "object") = some true) : TyOf K H (.ref a) (.ref C)
/-- isinstance(x, c) for one class c, a built-in or an own one: kitOne's answer -/
theorem isinst_ok {x : V} {u t : Value} (I : Inv X pins σ H s) (rx : RelV x u) (ty : TyOf X.K H x t) (e : PySem.W.kitOne X.K t c = some b) (h : ∀ tk, Q (.bool b) { s with toks := tk }) :
    wpAny (model X.prog X.w) A (call (.builtin "isinstance") [u, c]) Q E s := by
  cases ty with
  | non => cases (show u = Value.none from rx); exact PySem.W.kia_one PySem.W.kitx_none I.kIn True.intro e (fun z => nomatch z) h
  | bl y => cases (show u = Value.bool y from rx); exact PySem.W.kia_one PySem.W.kitx_bool I.kIn True.intro e (fun z => nomatch z) h
  | int i => obtain ⟨t, q⟩ := (show ∃ t, u = Value.int i t from rx); cases q; exact PySem.W.kia_one PySem.W.kitx_int I.kIn True.intro e (fun z => nomatch z) h
  | str y => obtain ⟨t, q⟩ := (show ∃ t, u = Value.str y t from rx); cases q; exact PySem.W.kia_one PySem.W.kitx_str I.kIn True.intro e (fun z => nomatch z) h
  | flt y => obtain ⟨t, q⟩ := (show ∃ t, u = Value.float y t from rx); cases q; exact PySem.W.kia_one PySem.W.kitx_float I.kIn True.intro e (fun z => nomatch z) h
  | @lst a xs ea =>
    cases (show u = Value.ref a from rx)
    obtain ⟨_, _, n, _, h1⟩ := (show ObjOk X.prog X.w H s.heap a (.lst xs) from I.hok a _ ea)
    exact PySem.W.kia_one PySem.W.kitx_list I.kIn ⟨_, h1, rfl⟩ e (fun z => nomatch z) h
  | @frz a ob xs ea =>
    cases (show u = Value.ref a from rx)
    obtain ⟨_, _, _, n, _, h1⟩ := (show ObjOk X.prog X.w H s.heap a (.frz ob (.lst xs)) from I.hok a _ ea)
    exact PySem.W.kia_one PySem.W.kitx_list I.kIn ⟨_, h1, rfl⟩ e (fun z => nomatch z) h
  | @tup a xs ea =>
    cases (show u = Value.ref a from rx)
    obtain ⟨_, _, _, p⟩ := (show ObjOk X.prog X.w H s.heap a (.tup xs) from I.hok a _ ea)
    obtain ⟨o, h1, h2, _⟩ := p
    exact PySem.W.kia_one PySem.W.kitx_tuple I.kIn ⟨o, h1, h2⟩ e (fun z => nomatch z) h
  | @dK a kvs ea =>
    cases (show u = Value.ref a from rx)
    obtain ⟨_, _, vs, _, p⟩ := (show ObjOk X.prog X.w H s.heap a (.dK kvs) from I.hok a _ ea)
    obtain ⟨o, es, ep, h1, h2, _⟩ := p
    exact PySem.W.kia_one PySem.W.kitx_dict I.kIn ⟨o, h1, h2.1⟩ e (fun z => nomatch z) h
  | @dT a kvs ea =>
    cases (show u = Value.ref a from rx)
    obtain ⟨_, _, xs, _, o, es, ep, h1, h2, _⟩ := (show ObjOk X.prog X.w H s.heap a (.dT kvs) from I.hok a _ ea)
    exact PySem.W.kia_one PySem.W.kitx_dict I.kIn ⟨o, h1, h2.1⟩ e (fun z => nomatch z) h
  | @ins a C dx fs ea cl ha hn htk hm =>
    cases (show u = Value.ref a from rx)
    obtain ⟨mA, O, _⟩ := ins_get I.hok ea
    obtain ⟨od, J, _⟩ := O.look
    exact PySem.W.kia_one (PySem.W.kitx_own (cl.get _) cl.hd ha hn htk hm) I.kIn J e (fun z => nomatch z) h
end
end L2

namespace L2
open PySem PySem.Spec PyProof.Rows

/-! ### room -/
structure Room (k : Nat) (A : Around) : Prop where
  hd : A.handled = none
  dp : A.depth + 3 * k + 5 < recursionLimit
  un : A.units + 16 * k + 200 < cLine
theorem Room.mono {j k : Nat} {A : Around} (r : Room k A) (h : j ≤ k) : Room j A := ⟨r.hd, by have := r.dp; omega, by have := r.un; omega⟩
theorem Room.deeper {k : Nat} {A : Around} (r : Room (k + 1) A) (env : Env) : Room k (A.deeper env) :=
  ⟨r.hd, by have := r.dp; show A.depth + 1 + 3 * k + 5 < _; omega, by have := r.un; show A.units + 3 + 16 * k + 200 < _; omega⟩
theorem make_depth {A : Around} {C : Addr} {us : List Value} {kw : List (Str × Value)} : (A.under (.builtin "type.__call__" ⟨.ref C :: us, kw⟩)).depth = A.depth + 1 := by
  first | rfl | simp [Around.under, Code.weight, Code.isCreation, Code.isGuard, Code.isCaller, Code.frames, Code.isFrame, guardIds]
theorem make_units {A : Around} {C : Addr} {us : List Value} {kw : List (Str × Value)} : (A.under (.builtin "type.__call__" ⟨.ref C :: us, kw⟩)).units = A.units + 1 := by
  first | rfl | simp [Around.under, Code.cUnits, Code.frames, Code.isFrame]
theorem Room.make {k : Nat} {A : Around} (r : Room (k + 1) A) (C : Addr) (us : List Value) (kw : List (Str × Value)) : Room k (A.under (.builtin "type.__call__" ⟨.ref C :: us, kw⟩)) :=
  ⟨r.hd, by have := r.dp; rw [make_depth]; omega, by have := r.un; rw [make_units]; omega⟩
theorem Room.depth {k : Nat} {A : Around} (r : Room k A) : A.depth < recursionLimit := by have := r.dp; omega
theorem Room.units {k : Nat} {A : Around} (r : Room k A) : A.units + 64 < cLine := by have := r.un; omega
/-! ### argument lists and displays -/
noncomputable def tNil : TA := fun _ H Q => Q [] H
noncomputable def tCons (ta : TE) (tr : TA) : TA := fun σ H Q => ta σ H fun x H1 => tr σ H1 fun xs H2 => Q (x :: xs) H2
section
variable {X : Cx} {e : Expr} {es : List Expr} {te : TE} {t : TA} {pos : Pos}
theorem pa_nil : PA X [] tNil := fun _ _ _ _ H Q I h => Calls.spliced_nil ⟨[], H, I, .nil, h⟩
theorem pa_cons (ha : PE X e te) (hr : PA X es t) (hs : starEach (e :: es) X.env = (false, eval e X.env) :: starEach es X.env := by rfl) : PA X (e :: es) (tCons te t) := by
  intro pos pins s σ H Q I h
  rw [hs]
  show wpAny _ _ (spliced ((false, eval e X.env) :: backTo pos (starEach es X.env))) _ _ s
  refine Calls.spliced_cons (thn (ha pins s σ H _ I h) fun u s1 ⟨x, H1, I1, r1, q1⟩ => ?_)
  exact thn (hr pos pins s1 σ H1 _ I1 q1) fun us s2 ⟨xs, H2, I2, r2, q2⟩ => ⟨x :: xs, H2, I2, .cons r1 r2, q2⟩

/-- a tuple, a list of written items -/
noncomputable def tTup (t : TA) : TE := fun σ H Q => t σ H fun xs H1 => xs.length ≤ sizeLine ∧ ∀ p, H1 p = none → Q (.ref p) (upd H1 p (.tup xs))
noncomputable def tLst (t : TA) : TE := fun σ H Q => t σ H fun xs H1 => xs.length ≤ sizeLine ∧ ∀ p, H1 p = none → Q (.ref p) (upd H1 p (.lst xs))
theorem pe_tup {x1} (h : PA X es t) : PE X (.Tuple es x1 pos) (tTup t) := by
  intro pins s σ H Q I hq
  refine wpAny_Tuple_spliced (thn (h pos pins s σ H _ I hq) fun us s1 ⟨xs, H1, I1, r, z, q⟩ => ⟨by rw [← r.length]; exact z, ?_⟩)
  have hf : H1 s1.heap.objs.size = none := I1.hok.fresh (Nat.le_refl _)
  refine ⟨.ref s1.heap.objs.size, upd H1 s1.heap.objs.size (.tup xs), I1.laid (t' := s1.toks) (fun b u e => Heap.get?_push_of_some _ e) (Nat.le_refl _) ?_, rfl, q _ hf⟩
  exact ⟨z, us, r, ⟨_, Heap.get?_push_size _ rfl, rfl, _, rfl⟩⟩
theorem pe_lst (h : PA X es t) : PE X (.List es pos) (tLst t) := by
  intro pins s σ H Q I hq
  refine wpAny_List_spliced (thn (h pos pins s σ H _ I hq) fun us s1 ⟨xs, H1, I1, r, z, q⟩ => ⟨by rw [← r.length]; exact z, ?_⟩)
  have hf : H1 s1.heap.objs.size = none := I1.hok.fresh (Nat.le_refl _)
  refine ⟨.ref s1.heap.objs.size, upd H1 s1.heap.objs.size (.lst xs), I1.laid (t' := s1.toks) (fun b u e => Heap.get?_push_of_some _ e) (Nat.le_refl _) ?_, rfl, q _ hf⟩
  exact ⟨z, us, 0, r, Heap.get?_push_size _ rfl⟩
end

/-! ### what a def promises -/
/-- a def's promise: the bound arguments in the parameters' order, the heap, the wanted end, the wanted exception -/
noncomputable abbrev Sp := List V → Hp → VK → XK → Prop
/-- how an exception lies behind a call (file 08 gives it): the callers' frames, abstract heap and state ahead of the call, the wish, the exception, the state -/
noncomputable abbrev CXT := List Env → Hp → Shared → XK → Value → Shared → Prop

/-- the state at a call -/
structure Env0 (P : Program) (w : World) (K : PySem.W.Frag) (mg : Str → Option Value) (base : Heap) (A : Around) (outer : List Env) (s : Shared) (H : Hp) : Prop where
  frames : A.frames = some outer
  mod : Mod K mg base
  bs : ∀ b o, base.get? b = some o → s.heap.get? b = some o ∧ H b = none
  bsz : base.objs.size ≤ s.heap.objs.size
  funs : s.heap.FunFrames base outer
  frf : ∀ b ∈ frs outer, H b = none
  hok : HOk P w H s.heap
  bare : AllBare s.gens
/-- a call's end -/
noncomputable def CE (outer : List Env) (P : Program) (w : World) (H : Hp) (s : Shared) (Q : VK) (u : Value) (s' : Shared) : Prop :=
  ∃ v H', s'.os = s.os ∧ AllBare s'.gens ∧ Un (frs outer) [] H H' s.heap s'.heap ∧ HOk P w H' s'.heap ∧ RelV v u ∧ Q v H'
noncomputable def CR (CX : CXT) (outer : List Env) (P : Program) (w : World) (H : Hp) (s : Shared) (Q : VK) (E : XK) (r : Result) (s' : Shared) : Prop :=
  match r with
  | .ok (.ret u) => CE outer P w H s Q u s'
  | .ok _ => False
  | .error e => CX outer H s E e s'
structure FnOk (P : Program) (w : World) (K : PySem.W.Frag) (mg : Str → Option Value) (base : Heap) (CX : CXT) (k : Nat) (f : Addr) (fd : FuncData) (ps : List Str) (sp : Sp) : Prop where
  len : ∀ vs H Q E, sp vs H Q E → vs.length = ps.length
  run : ∀ (A : Around) (outer : List Env) (s : Shared) (H : Hp) (args : Args) (us : List Value) (vs : List V) (Q : VK) (E : XK), Room k A → Env0 P w K mg base A outer s H → BindsTo s fd args (ps.zip us) → Vals vs us → sp vs H Q E →
    codeAny (model P w) A (.call (.ref f) args) (CR CX outer P w H s Q E) s
theorem FnOk.mono {P : Program} {w : World} {K : PySem.W.Frag} {mg : Str → Option Value} {base : Heap} {CX : CXT} {j k : Nat} {f : Addr} {fd : FuncData} {ps : List Str} {sp : Sp} (F : FnOk P w K mg base CX j f fd ps sp) (h : j ≤ k) :
    FnOk P w K mg base CX k f fd ps sp := ⟨F.len, fun A outer s H args us vs Q E hr => F.run A outer s H args us vs Q E (hr.mono h)⟩
theorem Env0.make {P : Program} {w : World} {K : PySem.W.Frag} {mg : Str → Option Value} {base : Heap} {A : Around} {outer : List Env} {s : Shared} {H : Hp} (e : Env0 P w K mg base A outer s H) (C : Addr) (us : List Value) (kw : List (Str × Value)) :
    Env0 P w K mg base (A.under (.builtin "type.__call__" ⟨.ref C :: us, kw⟩)) outer s H := ⟨by first | exact e.frames | (simpa [Around.under, Code.envs, Code.isFrame, pushEnvs] using e.frames), e.mod, e.bs, e.bsz, e.funs, e.frf, e.hok, e.bare⟩
section
variable {X : Cx} {pins : List (Addr × Obj)} {σ : St} {H : Hp} {s s' : Shared}
/-- from a body: what a callee wants -/
theorem Inv.env0 (I : Inv X pins σ H s) : Env0 X.prog X.w X.K X.mg X.base X.A X.stack s H :=
  ⟨I.ok.frames, I.ok.mod, I.bs, Nat.le_trans I.ok.bsz I.sz, I.stack, I.stkFree, I.hok, I.bare⟩
/-- behind a call -/
theorem Inv.after {Q : VK} {u : Value} (I : Inv X pins σ H s) (h : CE X.stack X.prog X.w H s Q u s') : EP X pins σ Q u s' := by
  obtain ⟨v, H', os, bare, un, hok, r, q⟩ := h
  obtain ⟨hh, g, d, t, os'⟩ := s'
  obtain rfl : os' = s.os := os
  exact ⟨v, H', I.call (h' := hh) (g' := g) (d' := d) (t' := t) (ch := []) un hok bare (fun b z => absurd z (by simp)), r, q⟩
end

/-! ### calls -/
/-- f(..): the written arguments, then the defaults dvs; E: what is wanted of an exception -/
noncomputable def tCall (sp : Sp) (dvs : List V) (E : XK) (t : TA) : TE := fun σ H Q => t σ H fun vs H1 => sp (vs ++ dvs) H1 Q E
/-- o.m(..) of an instance of the class at C -/
noncomputable def tMeth (C : Addr) (m : Str) (sp : Sp) (dvs : List V) (E : XK) (ta : TE) (t : TA) : TE := fun σ H Q => ta σ H fun x H1 => ∃ a dx fs, x = .ref a ∧ H1 a = some (.ins C dx fs) ∧ fs.lookup m = none ∧
  t σ H1 fun vs H2 => sp (x :: (vs ++ dvs)) H2 Q E
/-- C(..): a new instance and its dict, then __init__ -/
noncomputable def tMake (C : Addr) (sp : Sp) (dvs : List V) (E : XK) (t : TA) : TE := fun σ H Q => t σ H fun vs H1 => ∀ x dx, H1 x = none → H1 dx = none → dx ≠ x →
  sp (.ref x :: (vs ++ dvs)) (upd (upd H1 dx (.own x)) x (.ins C dx [])) (fun v H2 => v = .non ∧ Q (.ref x) H2) E

/-- how the parameters are bound: us the positional arguments, kw the keywords' values by name, ds the defaults that fill up -/
noncomputable def Binds (K : PySem.W.Frag) (fd : FuncData) (ps : List Str) (ds : List Value) : Prop :=
  ∀ (s : Shared) (us : List Value), K.In s.heap → (us ++ ds).length = ps.length → BindsTo s fd ⟨us, []⟩ (ps.zip (us ++ ds))
/-- every parameter is given -/
theorem Binds.all {K : PySem.W.Frag} {fd : FuncData} {ps : List Str} (h : ∀ us : List Value, us.length = ps.length → bindArgs fd ⟨us, []⟩ = pure (ps.zip us)) : Binds K fd ps [] := fun s us _ hl => by
  rw [List.append_nil] at hl ⊢
  exact .of_eq (h us hl)

/-- an exception of a callee reaches what this body wants of exceptions -/
noncomputable def Passes (CX : CXT) (X : Cx) (E : XK) : Prop := ∀ (pins : List (Addr × Obj)) (σ : St) (H : Hp) (s : Shared) (e : Value) (s' : Shared), Inv X pins σ H s → CX X.stack H s E e s' → X.xe e s'

section
variable {X : Cx} {CX : CXT} {k : Nat} {f C : Addr} {fd : FuncData} {ps : List Str} {sp : Sp} {dvs : List V} {ds : List Value} {E : XK} {x m : Str} {p pos apos : Pos} {e o : Expr} {es : List Expr} {ta : TE} {t : TA}

/-- the callee runs -/
theorem run_fn {pins : List (Addr × Obj)} {σ : St} {H : Hp} {s : Shared} {Q : VK} {us : List Value} {vs : List V} (F : FnOk X.prog X.w X.K X.mg X.base CX k f fd ps sp) (hr : Room k X.A) (hb : Binds X.K fd ps ds) (hd : Vals dvs ds) (hx : Passes CX X E)
    (I : Inv X pins σ H s) (r : Vals vs us) (h : sp (vs ++ dvs) H Q E) : wpAny (model X.prog X.w) X.A (call (.ref f) us) (EP X pins σ Q) X.xe s := by
  have r2 : Vals (vs ++ dvs) (us ++ ds) := r.append hd
  have hl : (us ++ ds).length = ps.length := by rw [← r2.length]; exact F.len _ _ _ _ h
  refine wpAny_call (codeAny_mono (F.run X.A X.stack s H ⟨us, []⟩ (us ++ ds) (vs ++ dvs) Q E hr I.env0 (hb s us I.kIn hl) r2 h) fun r s' hq => ?_)
  cases r with
  | error e => exact hx pins σ H s e s' I hq
  | ok fl =>
    cases fl with
    | ret u => exact I.after hq
    | next => exact False.elim hq
    | brk => exact False.elim hq
    | cont => exact False.elim hq

theorem pe_call (F : FnOk X.prog X.w X.K X.mg X.base CX k f fd ps sp) (hr : Room k X.A) (hg : Gl X x) (hm : X.mg x = some (.ref f)) (hk : PySem.W.keepIn X.K (.ref f) = true) (hb : Binds X.K fd ps ds) (hd : Vals dvs ds) (hx : Passes CX X E)
    (ha : PA X (e :: es) t) (hdb : (x == ("__debug__" : Str)) = false := by decide) (he : starEach (e :: es) X.env = (false, eval e X.env) :: starEach es X.env := by rfl) (hpl : (backTo pos (starEach es X.env)).any (·.1) = false := by rfl) :
    PE X (.Call (.Name x p) (e :: es) [] pos) (tCall sp dvs E t) := by
  intro pins s σ H Q I h
  refine wpAny_Call_Name_kw (ld_glob I hg hm ?_ hdb)
  refine PySem.W.callWith_K (h₀ := X.base) I.ok.mod.kin hk (thn (ha pos pins s σ H _ I h) fun us s1 ⟨vs, H1, I1, r, q⟩ => ⟨I1.kIn, ?_⟩) he hpl
  exact run_fn F hr hb hd hx I1 r q
/-- o.m(e, ..) -/
theorem pe_meth {pl : Sem Bool} (he : PE X o ta) (c : Cls X.K C) (hm : Meth X.K C m f) (F : FnOk X.prog X.w X.K X.mg X.base CX k f fd ps sp) (hr : Room k X.A) (hb : Binds X.K fd ps ds) (hd : Vals dvs ds) (hx : Passes CX X E) (ha : PA X (e :: es) t)
    (hst : starEach (e :: es) X.env = (false, eval e X.env) :: starEach es X.env := by rfl) (hpl : (backTo pos (starEach es X.env)).any (·.1) = false := by rfl)
    (ht : eval (.Call (.Attribute o m apos) (e :: es) [] pos) X.env = (do
      let ov ← eval o X.env
      standAt apos.atName
      let (f, first) ← holding [ov] (getMethod ov m pl)
      callWith pos f first (backTo pos (starEach (e :: es) X.env)) (backToKw pos (keywordEach [] X.env))) := by rfl) :
    PE X (.Call (.Attribute o m apos) (e :: es) [] pos) (tMeth C m sp dvs E ta t) := by
  intro pins s σ H Q I h
  refine PySem.W.methodCall_KW (pl := pl) (thn (he pins s σ H _ I h) fun u s1 ⟨x, H1, I1, rx, a, dx, fs, ex, ea, l, q⟩ => ?_) ht
  subst ex
  obtain rfl : u = Value.ref a := rx
  refine getmeth_ok I1 ea c hm l ?_
  refine PySem.W.callWith_K (first := [.ref a]) (h₀ := X.base) I.ok.mod.kin hm.kp (thn (ha pos pins s1 σ H1 _ I1 q) fun us s2 ⟨vs, H2, I2, r, q2⟩ => ⟨I2.kIn, ?_⟩) hst hpl
  exact run_fn (us := .ref a :: us) (vs := .ref a :: vs) F hr hb hd hx I2 (.cons rfl r) q2
/-- o.m() -/
theorem pe_meth0 {pl : Sem Bool} (he : PE X o ta) (c : Cls X.K C) (hm : Meth X.K C m f) (F : FnOk X.prog X.w X.K X.mg X.base CX k f fd ps sp) (hr : Room k X.A) (hb : Binds X.K fd ps ds) (hd : Vals dvs ds) (hx : Passes CX X E)
    (ht : eval (.Call (.Attribute o m apos) [] [] pos) X.env = (do
      let ov ← eval o X.env
      standAt apos.atName
      let (f, first) ← holding [ov] (getMethod ov m pl)
      callWith pos f first (backTo pos (starEach [] X.env)) (backToKw pos (keywordEach [] X.env))) := by rfl) :
    PE X (.Call (.Attribute o m apos) [] [] pos) (tMeth C m sp dvs E ta tNil) := by
  intro pins s σ H Q I h
  refine PySem.W.methodCall_KW (pl := pl) (thn (he pins s σ H _ I h) fun u s1 ⟨x, H1, I1, rx, a, dx, fs, ex, ea, l, q⟩ => ?_) ht
  subst ex
  obtain rfl : u = Value.ref a := rx
  refine getmeth_ok I1 ea c hm l ?_
  exact PySem.W.callWith_K0 (first := [.ref a]) I1.kIn hm.kp (run_fn (us := [.ref a]) (vs := [.ref a]) F hr hb hd hx I1 (.cons rfl .nil) q)

/-- what a class must have to be made -/
structure Mk (K : PySem.W.Frag) (C f : Addr) : Prop where
  makes : PySem.W.makesIn K C = true
  init : PySem.W.findIn K (.ref C) "__init__" = some (some (.ref f))
  fn : PySem.W.isFn K (.ref f) = true
  kp : PySem.W.keepIn K (.ref C) = true

theorem run_make {pins : List (Addr × Obj)} {σ : St} {H : Hp} {s : Shared} {Q : VK} {us : List Value} {vs : List V} (M : Mk X.K C f) (F : FnOk X.prog X.w X.K X.mg X.base CX k f fd ps sp) (hr : Room (k + 1) X.A) (hb : Binds X.K fd ps ds) (hd : Vals dvs ds)
    (hx : Passes CX X E) (I : Inv X pins σ H s) (r : Vals vs us)
    (h : ∀ x dx, H x = none → H dx = none → dx ≠ x → sp (.ref x :: (vs ++ dvs)) (upd (upd H dx (.own x)) x (.ins C dx [])) (fun v H2 => v = .non ∧ Q (.ref x) H2) E) :
    wpAny (model X.prog X.w) X.A (call (.ref C) us) (EP X pins σ Q) X.xe s := by
  have hq := h (s.heap.objs.size + 1) s.heap.objs.size (I.hok.fresh (Nat.le_succ _)) (I.hok.fresh (Nat.le_refl _)) (Nat.ne_of_lt (Nat.lt_succ_self _))
  have I2 := Inv.made (C := C) I
  have r2 : Vals (V.ref (s.heap.objs.size + 1) :: (vs ++ dvs)) (Value.ref (s.heap.objs.size + 1) :: (us ++ ds)) := .cons rfl (r.append hd)
  have hl : (Value.ref (s.heap.objs.size + 1) :: us ++ ds).length = ps.length := by
    have e := r2.length
    rw [F.len _ _ _ _ hq] at e
    exact e.symm
  refine wpAny_call (make_map (f := f) I.kIn M.makes M.init (beq_iff_eq.mp M.fn) (codeAny_mono (F.run _ X.stack _ _ ⟨Value.ref (s.heap.objs.size + 1) :: us, []⟩ (Value.ref (s.heap.objs.size + 1) :: (us ++ ds)) _ _ E (hr.make C us [])
    (I2.env0.make C us []) (hb _ (Value.ref (s.heap.objs.size + 1) :: us) I2.kIn hl) r2 hq) fun r s' hq' => ?_))
  cases r with
  | error e => exact hx pins σ _ _ e s' I2 hq'
  | ok fl =>
    cases fl with
    | ret u =>
      obtain ⟨v, H', I3, rv, ev, q3⟩ := I2.after hq'
      subst ev
      exact ⟨rv, ⟨V.ref (s.heap.objs.size + 1), H', I3, rfl, q3⟩⟩
    | next => exact False.elim hq'
    | brk => exact False.elim hq'
    | cont => exact False.elim hq'
theorem pe_make0 (M : Mk X.K C f) (F : FnOk X.prog X.w X.K X.mg X.base CX k f fd ps sp) (hr : Room (k + 1) X.A) (hg : Gl X x) (hm : X.mg x = some (.ref C)) (hb : Binds X.K fd ps ds) (hd : Vals dvs ds) (hx : Passes CX X E)
    (hdb : (x == ("__debug__" : Str)) = false := by decide) : PE X (.Call (.Name x p) [] [] pos) (tMake C sp dvs E tNil) := by
  intro pins s σ H Q I h
  refine wpAny_Call_Name_kw (ld_glob I hg hm ?_ hdb)
  exact PySem.W.callWith_K0 I.kIn M.kp (run_make (us := []) M F hr hb hd hx I .nil h)
end

/-! ### keywords -/
section
variable {X : Cx} {CX : CXT} {k : Nat} {f C : Addr} {fd : FuncData} {ps ks : List Str} {sp : Sp} {E : XK} {x m : Str} {p pos apos kpos : Pos} {e o : Expr} {es : List Expr} {kws : List Keyword} {te ta : TE} {t tk : TA} {nm : Option Str}
variable {g : List Value → List Value → List Value} {gV : List V → List V → List V}
end

/-! ### a def's body keeps its promise -/
/-- names: the parameters first -/
structure FnScope (N P : List Str) (sc : Scope) : Prop where
  kind : sc.kind = .function
  co : sc.isCoroutine = false
  gen : sc.isGenerator = false
  nd : N.Nodup
  pre : N.take P.length = P
  par : ∀ x ∈ P, sc.names.lookup x = some .local ∨ sc.names.lookup x = some .cell
  nofree : ∀ y ∈ sc.names, y.2 ≠ .free

theorem bindL_out {kindOf : Str → Option NameKind} {x : Str} : ∀ {binds : List (Str × Value)} {m : Str → Option Value}, (∀ v, (x, v) ∉ binds) → bindL kindOf binds m x = m x
  | [], _, _ => rfl
  | (n, v) :: r, m, h => by
    unfold bindL
    rw [bindL_out fun w hw => h w (List.mem_cons_of_mem _ hw)]
    split
    · have : x ≠ n := by rintro rfl; exact h v List.mem_cons_self
      simp [this]
    · rfl
theorem bindC_out {kindOf : Str → Option NameKind} {x : Str} : ∀ {binds : List (Str × Value)} {m : Str → Option Value}, (∀ v, (x, v) ∉ binds) → bindC kindOf binds m x = m x
  | [], _, _ => rfl
  | (n, v) :: r, m, h => by
    unfold bindC
    rw [bindC_out fun w hw => h w (List.mem_cons_of_mem _ hw)]
    split
    · rfl
    · have : x ≠ n := by rintro rfl; exact h v List.mem_cons_self
      simp [this]
theorem bindL_get {kindOf : Str → Option NameKind} {x : Str} {v : Value} : ∀ {P : List Str} {vs : List Value} {i : Nat} {m : Str → Option Value}, P.Nodup → P[i]? = some x → vs[i]? = some v → kindOf x = some .local →
    bindL kindOf (P.zip vs) m x = some v
  | [], _, _, _, _, h, _, _ => by simp at h
  | _ :: _, [], _, _, _, _, h, _ => by simp at h
  | p :: P, w :: vs, 0, m, nd, h1, h2, hk => by
    simp at h1 h2; subst h1; subst h2
    show bindL kindOf ((p, w) :: P.zip vs) m p = _
    unfold bindL
    rw [bindL_out fun v hv => (List.nodup_cons.mp nd).1 (List.of_mem_zip hv).1, if_pos hk]
    simp
  | p :: P, w :: vs, i + 1, m, nd, h1, h2, hk => by
    show bindL kindOf ((p, w) :: P.zip vs) m x = _
    unfold bindL
    exact bindL_get (i := i) (List.nodup_cons.mp nd).2 (by simpa using h1) (by simpa using h2) hk
theorem bindC_get {kindOf : Str → Option NameKind} {x : Str} {v : Value} : ∀ {P : List Str} {vs : List Value} {i : Nat} {m : Str → Option Value}, P.Nodup → P[i]? = some x → vs[i]? = some v → kindOf x ≠ some .local →
    bindC kindOf (P.zip vs) m x = some v
  | [], _, _, _, _, h, _, _ => by simp at h
  | _ :: _, [], _, _, _, _, h, _ => by simp at h
  | p :: P, w :: vs, 0, m, nd, h1, h2, hk => by
    simp at h1 h2; subst h1; subst h2
    show bindC kindOf ((p, w) :: P.zip vs) m p = _
    unfold bindC
    rw [bindC_out fun v hv => (List.nodup_cons.mp nd).1 (List.of_mem_zip hv).1, if_neg hk]
    simp
  | p :: P, w :: vs, i + 1, m, nd, h1, h2, hk => by
    show bindC kindOf ((p, w) :: P.zip vs) m x = _
    unfold bindC
    exact bindC_get (i := i) (List.nodup_cons.mp nd).2 (by simpa using h1) (by simpa using h2) hk

/-- the names' values at the entry -/
noncomputable def start (N : List Str) (vs : List V) : St := vs.map some ++ List.replicate (N.length - vs.length) none

/-- the context of a def's body, at its entry; an exception leaves the frame, then lies as CX says -/
noncomputable def cxOf (CX : CXT) (P : Program) (w : World) (K : PySem.W.Frag) (mg : Str → Option Value) (base : Heap) (N : List Str) (qual : Str) (scope : Scope) (f : Addr) (cd : Value) (A : Around) (outer : List Env) (s : Shared) (H : Hp) (E : XK) : Cx where
  prog := P
  w := w
  K := K
  mg := mg
  base := base
  A := A.deeper (envOfC qual scope s.heap.objs.size f cd)
  N := N
  s₀ := s
  H₀ := H
  env := envOfC qual scope s.heap.objs.size f cd
  outer := outer
  stack := envOfC qual scope s.heap.objs.size f cd :: outer
  ex := []
  calm := true
  fn := fun _ => true
  pn := []
  xe := fun e s' => wpAny (model P w) (A.deeper (envOfC qual scope s.heap.objs.size f cd)) (leaving (envOfC qual scope s.heap.objs.size f cd) e) (fun _ s'' => CX outer H s E e s'') (fun e' s'' => CX outer H s E e' s'') s'

theorem cell_has {sc : Scope} {n : Nat} {x : Str} (h : sc.names.lookup x = some .cell) : ∃ c, (cellsFrom n sc.names []).lookup x = some c := by
  have q := PySem.W.cellsFrom_some sc.names n [] (.inl h)
  exact Option.isSome_iff_exists.mp q

theorem inv_start {CX : CXT} {P : Program} {w : World} {K : PySem.W.Frag} {mg : Str → Option Value} {base : Heap} {N ps : List Str} {qual : Str} {scope : Scope} {f : Addr} {cd : Value} {A : Around} {outer : List Env} {s s1 : Shared} {H : Hp} {E : XK} {us : List Value} {vs : List V}
    (S : FnScope N ps scope) (hd : A.handled = none) (e0 : Env0 P w K mg base A outer s H) (hl : vs.length = ps.length) (r : Vals vs us)
    (x : InCallC s s.heap.objs.size (bindL (envOfC qual scope s.heap.objs.size f cd).kindOf (ps.zip us) fun _ => none) (cellsFrom (s.heap.objs.size + 1) scope.names []) (bindC (envOfC qual scope s.heap.objs.size f cd).kindOf (ps.zip us) fun _ => none) s1) :
    Inv (cxOf CX P w K mg base N qual scope f cd A outer s H E) [] (start N vs) H s1 := by
  have hpl : ps.length ≤ N.length := by have := congrArg List.length S.pre; rw [List.length_take] at this; omega
  obtain ⟨h1, tk, rfl, hk⟩ := x.done
  have noA : ∀ b : Addr, b ∉ (cxOf CX P w K mg base N qual scope f cd A outer s H E).ex := fun b z => absurd (show b ∈ ([] : List Addr) from z) (by simp)
  refine ⟨⟨e0.mod, S.kind, rfl, rfl, Nat.le_refl _, fun y z c h1 h2 => ?_, fun y hy => ?_, fun y c _ h => ?_, fun _ => hd, Around.frames_deeper e0.frames, .inr ⟨rfl, rfl⟩, fun b z => absurd z (noA b), e0.bs, e0.bsz, fun b _ _ => noA b, fun b z => absurd z (noA b), e0.funs, e0.frf⟩,
    rfl, e0.bare, Un.kept hk, ⟨_, x.toInCall.ns, fun i y v h1 h2 h3 => ?_⟩, fun y c h => ⟨_, x.cell y c h⟩, e0.hok.fresh (Nat.le_refl _), fun y c h => ?_, fun p hp => absurd (show p ∈ ([] : List (Addr × Obj)) from hp) (by simp), e0.hok.kept hk, ?_⟩
  · exact name_of_addr x.apart (PySem.mem_of_lookup h1) (PySem.mem_of_lookup h2)
  · have hy : scope.names.lookup y = some .cell ∨ scope.names.lookup y = some .free := hy
    rcases hy with hy | hy
    · exact cell_has hy
    · exact absurd rfl (S.nofree _ (PySem.mem_of_lookup hy))
  · exact Nat.le_of_lt (x.above y c (PySem.mem_of_lookup h))
  · have hi : i < vs.length := by
      unfold start at h2
      by_cases hi : i < vs.length
      · exact hi
      · rw [List.getElem?_append_right (by simpa using hi)] at h2
        rw [List.getElem?_replicate] at h2
        split at h2 <;> cases h2
    have ha : vs[i]? = some v := by
      unfold start at h2
      rw [List.getElem?_append_left (by simpa using hi), List.getElem?_map] at h2
      cases e : vs[i]? with
      | none => rw [e] at h2; cases h2
      | some a => rw [e] at h2; cases h2; rfl
    obtain ⟨u, hu, rv⟩ := r.get ha
    have hp : ps[i]? = some y := by
      rw [← S.pre, List.getElem?_take_of_lt (by omega)]; exact h1
    have ndP : ps.Nodup := by rw [← S.pre]; exact S.nd.sublist (List.take_sublist _ _)
    refine ⟨u, rv, ?_⟩
    rcases S.par y (List.mem_of_getElem? hp) with k | k
    · exact .inl ⟨k, bindL_get ndP hp hu k⟩
    · obtain ⟨c, e⟩ := cell_has (n := s.heap.objs.size + 1) k
      refine .inr ⟨.inl k, c, e, ?_⟩
      have q := x.cell y c e
      rw [bindC_get ndP hp hu (by show scope.names.lookup y ≠ _; rw [k]; decide)] at q
      exact q
  · exact e0.hok.fresh (Nat.le_of_lt (x.above y c (PySem.mem_of_lookup h)))
  · unfold start
    show _ = N.length
    rw [List.length_append, List.length_map, List.length_replicate]
    omega

/-- THE RULE: a def (or a method) of the text, by its body. The body's reading t is chosen for each entry; it is run at the parameters' values -/
theorem fn_of {CX : CXT} {P : Program} {w : World} {K : PySem.W.Frag} {mg : Str → Option Value} {base : Heap} {k : Nat} {f : Addr} {name qual : Str} {params : Arguments} {body : List Stmt} {scope : Scope} {dV kV doc pm cdv ct oc : Value} {an od : Option Addr}
    {osl : Array (Option Value)} {N ps : List Str} {sp : Sp} (lk : K.lookup f = some ⟨oc, od, .func (PySem.W.fnOf name qual params body scope dV kV doc pm an cdv ct), osl⟩) (hcd : PySem.W.codeIn K cdv qual = true) (S : FnScope N ps scope)
    (len : ∀ vs H Q E, sp vs H Q E → vs.length = ps.length)
    (hbody : ∀ (A : Around) (outer : List Env) (s : Shared) (H : Hp) (vs : List V) (Q : VK) (E : XK), Room k (A.deeper (envOfC qual scope s.heap.objs.size f cdv)) → sp vs H Q E →
      ∃ t, PSs (cxOf CX P w K mg base N qual scope f cdv A outer s H E) body t ∧ t { nx := fun _ H' => Q .non H', rt := Q } (start N vs) H) :
    FnOk P w K mg base CX (k + 1) f (PySem.W.fnOf name qual params body scope dV kV doc pm an cdv ct) ps sp := by
  refine ⟨len, fun A outer s H args us vs Q E hr e0 hb r hsp => ?_⟩
  have hl := len _ _ _ _ hsp
  have KX : K.In s.heap := e0.mod.kin.keeps fun b o e => (e0.bs b o e).1
  have lim : s.heap.NoLimit := e0.mod.nolimit.keeps fun b o e => (e0.bs b o e).1
  have hkind : ∀ y ∈ ps.zip us, scope.names.lookup y.1 = some .local ∨ (scope.names.lookup y.1 = some .cell ∧ ((cellsFrom (s.heap.objs.size + 1) scope.names []).lookup y.1).isSome = true) := fun ⟨n, v⟩ hy => by
    rcases S.par n (List.of_mem_zip hy).1 with q | q
    · exact .inl q
    · exact .inr ⟨q, PySem.W.cellsFrom_some _ _ _ (.inl q)⟩
  refine codeAny_call_function hr.depth (KX _ _ lk) rfl S.co S.gen rfl (PySem.W.codeRec_of KX hcd) (hb _ _ _ _ ?_)
  refine wpAny_newFunctionEnv_cells S.kind hkind fun env he s1 x => ?_
  subst he
  refine ⟨lim.keeps x.toInCall.keep, codeAny_func ?_⟩
  obtain ⟨t, ht, hq⟩ := hbody A outer s H vs Q E (hr.deeper _) hsp
  have I : Inv (cxOf CX P w K mg base N qual scope f cdv A outer s H E) [] (start N vs) H s1 := inv_start S hr.hd e0 hl r x
  refine wpAny_mono (ht [] s1 (start N vs) H _ I hq) (fun fl s' hs => ?_) fun e s' hs => hs
  have fin : ∀ {σ' : St} {H' : Hp} {v : V} {u : Value}, Inv (cxOf CX P w K mg base N qual scope f cdv A outer s H E) [] σ' H' s' → RelV v u → Q v H' → CE outer P w H s Q u s' :=
    fun {σ' H' v u} J rv q => ⟨v, H', J.os, J.bare, J.base, J.hok, rv, q⟩
  cases fl with
  | ret u =>
    obtain ⟨v, σ', H', J, rv, q⟩ := hs
    exact fin J rv q
  | next =>
    obtain ⟨σ', H', J, q⟩ := hs
    exact fin (v := V.non) (u := Value.none) J rfl q
  | brk =>
    obtain ⟨_, _, _, q⟩ := hs
    exact False.elim q
  | cont =>
    obtain ⟨_, _, _, q⟩ := hs
    exact False.elim q
end L2

namespace L2
open PySem PySem.Spec PyProof.Rows
section
variable {X : Cx} {x : Str} {p pos : Pos} {e : Expr} {es : List Expr} {t : TA} {id T : String} {r : List V → Hp → VK → Prop}

noncomputable def tCB (r : List V → Hp → VK → Prop) (t : TA) : TE := fun σ H Q => t σ H fun vs H1 => r vs H1 Q
/-- f(e, ..), f a built-in function -/
theorem pe_callB (hc : CallR X (.builtin id) r) (hg : Gl X x) (hm : X.mg x = none) (hv : bootBuiltins x = some (.builtin id)) (ha : PA X (e :: es) t) (hn : x ≠ "__name__" := by decide) (hdb : (x == ("__debug__" : Str)) = false := by decide)
    (he : starEach (e :: es) X.env = (false, eval e X.env) :: starEach es X.env := by rfl) (hpl : (backTo pos (starEach es X.env)).any (·.1) = false := by rfl) : PE X (.Call (.Name x p) (e :: es) [] pos) (tCB r t) := by
  intro pins s σ H Q I h
  refine wpAny_Call_Name_kw (ld_blt I hg hm hv ?_ hn hdb)
  exact PyProof.Rows.callWith_builtin1 (thn (ha pos pins s σ H _ I h) fun us s1 ⟨vs, H1, I1, r1, q1⟩ => hc pins s1 σ H1 vs us Q I1 r1 q1) he hpl
/-- T(e, ..), T a built-in type -/
theorem pe_callTy (hc : CallR X (.type T) r) (hg : Gl X x) (hm : X.mg x = none) (hv : bootBuiltins x = some (.type T)) (ha : PA X (e :: es) t) (hn : x ≠ "__name__" := by decide) (hdb : (x == ("__debug__" : Str)) = false := by decide)
    (he : starEach (e :: es) X.env = (false, eval e X.env) :: starEach es X.env := by rfl) (hpl : (backTo pos (starEach es X.env)).any (·.1) = false := by rfl) : PE X (.Call (.Name x p) (e :: es) [] pos) (tCB r t) := by
  intro pins s σ H Q I h
  refine wpAny_Call_Name_kw (ld_blt I hg hm hv ?_ hn hdb)
  exact PyProof.Rows.callWith_type1 (thn (ha pos pins s σ H _ I h) fun us s1 ⟨vs, H1, I1, r1, q1⟩ => hc pins s1 σ H1 vs us Q I1 r1 q1) he hpl
end
end L2

namespace HT
open PySem PyProof.Rows

section
open PySem.SeqAt
open PySem.AutoSeq1 (wpAny_loadPart')
open PySem.MeetsSeq PySem.MeetsSeq2 PySem.MeetsSeq3

end

section
variable {prog : Program} {w : World} {A : Around} {E : Value → Shared → Prop} {s : Shared}

/-! ### t[a:b], not the whole -/
/-- a slice's bound as a place among n (d where it is left out) -/
noncomputable def sIx (n d : Nat) : Option Int → Nat
  | none => d
  | some v => if v < 0 then (v + (n : Int)).toNat else min v.toNat n
theorem sIx_none (n d : Nat) : sIx n d none = d := rfl
theorem sIx_nat (n d k : Nat) : sIx n d (some (k : Int)) = min k n := by
  show (if (k : Int) < 0 then ((k : Int) + (n : Int)).toNat else min (k : Int).toNat n) = min k n
  rw [if_neg (by omega), Int.toNat_natCast]
end
end HT

namespace L2
open PySem PySem.Spec PyProof.Rows

/-! ### the parts of a slice -/
noncomputable abbrev TO := St → Hp → (Option Int → Hp → Prop) → Prop
/-- a slice's part (left out, or an int) -/
noncomputable def PO (X : Cx) (e : Option Expr) (t : TO) : Prop :=
  ∀ (pins : List (Addr × Obj)) (s : Shared) (σ : St) (H : Hp) (Q : Option Int → Hp → Prop), Inv X pins σ H s → t σ H Q →
    wpAny (model X.prog X.w) X.A (evalPart e X.env) (fun u s' => ∃ o H', Inv X pins σ H' s' ∧ IsPart u o ∧ Q o H') X.xe s
noncomputable def tNoPart : TO := fun _ H Q => Q none H
noncomputable def tPart (t : TE) : TO := fun σ H Q => t σ H fun x H1 => ∃ i, x = .int i ∧ Q (some i) H1

section
variable {X : Cx} {e : Expr} {te : TE} {lo hi : Option Expr} {tl th : TO} {pos p2 : Pos}

theorem po_none : PO X none tNoPart := by
  intro pins s σ H Q I h
  rw [evalPart_none]
  exact wpAny_pure ⟨none, H, I, .none, h⟩
theorem po_some (h : PE X e te) : PO X (some e) (tPart te) := by
  intro pins s σ H Q I hw
  rw [evalPart_some]
  refine thn (h pins s σ H _ I hw) fun u s1 ⟨x, H1, I1, r1, q1⟩ => ?_
  obtain ⟨i, rfl, q⟩ := q1
  obtain ⟨t, rfl⟩ := r1
  exact ⟨some i, H1, I1, .int i t, q⟩

/-- what a slice of a value is, by values: the slice object stands at sl -/
noncomputable def SlR (X : Cx) (r : V → Option Int → Option Int → Hp → VK → Prop) : Prop :=
  ∀ (pins : List (Addr × Obj)) (s : Shared) (σ : St) (H : Hp) (x : V) (v vl vu : Value) (lo hi : Option Int) (sl : Addr) (Q : VK), Inv X pins σ H s → RelV x v → s.heap.IsSliceOf sl vl vu .none → IsPart vl lo → IsPart vu hi → r x lo hi H Q →
    ∃ T id, typeLookup (.type T) "__getitem__" = pure (some (.builtin id)) ∧ s.TypeIs v T ∧ wpAny (model X.prog X.w) X.A (getItem v (.ref sl)) (EP X pins σ Q) X.xe s
noncomputable def tSl (r : V → Option Int → Option Int → Hp → VK → Prop) (te : TE) (tl th : TO) : TE := fun σ H Q => te σ H fun x H1 => tl σ H1 fun l H2 => th σ H2 fun u H3 => r x l u H3 Q
/-- a[lo:hi], any a -/
theorem pe_slice {r : V → Option Int → Option Int → Hp → VK → Prop} (hr : SlR X r) (he : PE X e te) (hl : PO X lo tl) (hu : PO X hi th) : PE X (.Subscript e (.Slice lo hi none p2) pos) (tSl r te tl th) := by
  intro pins s σ H Q I h
  refine Subscript_ (thn (he pins s σ H _ I h) fun v s1 ⟨x, H1, I1, r1, q1⟩ => ?_)
  refine wpAny_Slice (thn (hl pins s1 σ H1 _ I1 q1) fun vl s2 ⟨l, H2, I2, pl, q2⟩ => thn (hu pins s2 σ H2 _ I2 q2) fun vu s3 ⟨u, H3, I3, pu, q3⟩ => ?_)
  rw [evalPart_none]
  refine wpAny_pure ?_
  have I4 : Inv X pins σ H3 { s3 with heap := s3.heap.push { cls := .type "slice", data := .fields #[vl, vu, .none] } } := I3.kept (t' := s3.toks) fun b ob q => Heap.get?_push_of_some _ q
  obtain ⟨T, id, hT, ht, hg⟩ := hr pins { s3 with heap := s3.heap.push { cls := .type "slice", data := .fields #[vl, vu, .none] } } σ H3 x v vl vu l u s3.heap.objs.size Q I4 r1 (Heap.IsSliceOf.new ..) pl pu q3
  show wpAny (model X.prog X.w) X.A (subscriptTail e (.Slice lo hi none p2) v (.ref s3.heap.objs.size)) (EP X pins σ Q) X.xe { s3 with heap := s3.heap.push { cls := .type "slice", data := .fields #[vl, vu, .none] } }
  exact tail_any (ops := [.ref s3.heap.objs.size, v]) ht hT hg (by with_unfolding_all rfl)

/-- the items of xs[lo:hi] -/
noncomputable def cutV (xs : List V) (lo hi : Option Int) : List V := (xs.drop (HT.sIx xs.length 0 lo)).take (HT.sIx xs.length xs.length hi - HT.sIx xs.length 0 lo)
theorem cutV_length (xs : List V) (lo hi : Option Int) : (cutV xs lo hi).length ≤ xs.length := by
  unfold cutV
  rw [List.length_take, List.length_drop]
  omega
/-! ### t < u, t + u -/
end
end L2

namespace L2
open PySem PySem.Spec PyProof.Rows

/-! ### places -/
/-- the place that an index of any sign means -/
noncomputable def ixN (n : Nat) (i : Int) : Option Nat := if 0 ≤ i then (if i < n then some i.toNat else none) else if -(n : Int) ≤ i then some (i + n).toNat else none
noncomputable def atI {α : Type} (xs : List α) (i : Int) : Option α := (ixN xs.length i).bind fun j => xs[j]?
theorem ixN_seq {n : Nat} {i : Int} {j : Nat} (h : ixN n i = some j) : seqIndex? i n = some j ∧ j < n ∧ -(n : Int) ≤ i ∧ i < n := by
  unfold ixN at h
  by_cases h0 : 0 ≤ i
  · rw [if_pos h0] at h
    by_cases h1 : i < n
    · rw [if_pos h1] at h
      have e : i.toNat = j := Option.some.inj h
      exact ⟨by rw [seqIndex_of h0 h1, e], by omega, by omega, h1⟩
    · rw [if_neg h1] at h; cases h
  · rw [if_neg h0] at h
    by_cases h1 : -(n : Int) ≤ i
    · rw [if_pos h1] at h
      have e : (i + n).toNat = j := Option.some.inj h
      exact ⟨by rw [seqIndex_neg (by omega) h1, e], by omega, h1, by omega⟩
    · rw [if_neg h1] at h; cases h
theorem atI_get {α : Type} {xs : List α} {i : Int} {v : α} (h : atI xs i = some v) : ∃ j, seqIndex? i xs.length = some j ∧ xs[j]? = some v ∧ j < xs.length ∧ -(xs.length : Int) ≤ i ∧ i < xs.length := by
  unfold atI at h
  cases e : ixN xs.length i with
  | none => rw [e] at h; cases h
  | some j =>
    rw [e] at h
    obtain ⟨h1, h2, h3, h4⟩ := ixN_seq e
    exact ⟨j, h1, h, h2, h3, h4⟩
theorem atI_nat {α : Type} {xs : List α} {j : Nat} {v : α} (h : xs[j]? = some v) : atI xs (j : Int) = some v := by
  have hj : j < xs.length := (List.getElem?_eq_some_iff.mp h).1
  have e : ixN xs.length (j : Int) = some j := by
    unfold ixN
    rw [if_pos (by omega), if_pos (by omega)]; simp
  unfold atI; rw [e]; exact h
/-! ### what may be subscripted -/
/-- what stands as an index of a plain subscript -/
noncomputable def PlainIx (b : Expr) : Prop := ∀ o i, subscripted b false o i = operate [o, i] (getItem o i)
/-- a subscript by values -/
noncomputable def IxR (X : Cx) (r : R2) : Prop :=
  ∀ (value slice : Expr) (pins : List (Addr × Obj)) (s : Shared) (σ : St) (H : Hp) (x y : V) (v u : Value) (Q : VK), Inv X pins σ H s → RelV x v → RelV y u → r x y H Q →
    subscripted slice false v u = operate [v, u] (getItem v u) → wpAny (model X.prog X.w) X.A (subscriptTail value slice v u) (EP X pins σ Q) X.xe s
/-- a call of a builtin's method by values: the receiver, the arguments -/
noncomputable def MtR (X : Cx) (id : String) (r : V → List V → Hp → VK → Prop) : Prop :=
  ∀ (pins : List (Addr × Obj)) (s : Shared) (σ : St) (H : Hp) (x : V) (xs : List V) (v : Value) (us : List Value) (Q : VK), Inv X pins σ H s → RelV x v → Vals xs us → r x xs H Q →
    wpAny (model X.prog X.w) X.A (call (.builtin id) (v :: us)) (EP X pins σ Q) X.xe s
section
variable {X : Cx} {a b : Expr} {ta tb : TE} {pos : Pos}
/-- a[b] -/
theorem pe_ix {r : R2} (hr : IxR X r) (ha : PE X a ta) (hb : PE X b tb) (hs : PlainIx b) : PE X (.Subscript a b pos) (tOp r ta tb) := by
  intro pins s σ H Q I h
  exact Subscript_ (binT ha hb I h fun v u s2 x y H2 I2 rx ry q => hr a b pins s2 σ H2 x y v u Q I2 rx ry q (hs _ _))

noncomputable def rIxL (K : PySem.W.Frag) : R2 := fun x y H Q => ∃ p xs i v, x = .ref p ∧ y = .int i ∧ SqL K H p xs ∧ atI xs i = some v ∧ Q v H
noncomputable def rIxT (K : PySem.W.Frag) : R2 := fun x y H Q => ∃ p xs i v, x = .ref p ∧ y = .int i ∧ SqT K H p xs ∧ atI xs i = some v ∧ Q v H
noncomputable def rIxS : R2 := fun x y H Q => ∃ z i c, x = .str z ∧ y = .int i ∧ z.length ≤ sizeLine ∧ atI z.cps.toList i = some c ∧ Q (.str ⟨#[c]⟩) H
theorem ix_list : IxR X (rIxL X.K) := by
  intro value slice pins s σ H x y v u Q I rx ry h hs
  obtain ⟨p, xs, i, z, rfl, rfl, hq, he, q⟩ := h
  cases rx
  obtain ⟨t, rfl⟩ := ry
  obtain ⟨its, r, pl, hz⟩ := I.list hq
  obtain ⟨j, h1, h2, h3, h4, h5⟩ := atI_get he
  obtain ⟨w, ew, rw'⟩ := r.get h2
  have hl := r.length
  have hn := line63
  have fin : EP X pins σ Q w s := ⟨z, H, I, rw', q⟩
  by_cases h0 : 0 ≤ i
  · have hj : i.toNat = j := by
      rw [seqIndex_of h0 h5] at h1
      exact Option.some.inj h1
    exact item_listR pl.isList h0 (by omega) (by rw [hj]; simpa using ew) fin hs
  · have hj : (i + (its.toArray.size : Int)).toNat = j := by
      rw [seqIndex_neg (by omega) h4] at h1
      rw [List.size_toArray, ← hl]
      exact Option.some.inj h1
    exact subscriptTail_builtinR (x := w) pl.isList.typeIs slot_list_getitem.lookup
      (wpAny_getItem_list_neg (Q := fun r s' => r = w ∧ EP X pins σ Q r s') pl.isList (by omega) (by rw [List.size_toArray] <;> omega) (by omega) (by rw [hj]; simpa using ew) ⟨rfl, fin⟩) hs
theorem ix_tup : IxR X (rIxT X.K) := by
  intro value slice pins s σ H x y v u Q I rx ry h hs
  obtain ⟨p, xs, i, z, rfl, rfl, hq, he, q⟩ := h
  cases rx
  obtain ⟨t, rfl⟩ := ry
  obtain ⟨its, r, pl, hz⟩ := I.tuple hq
  obtain ⟨j, h1, h2, h3, h4, h5⟩ := atI_get he
  obtain ⟨w, ew, rw'⟩ := r.get h2
  have hl := r.length
  have hn := line63
  have fin : EP X pins σ Q w s := ⟨z, H, I, rw', q⟩
  exact subscriptTail_builtinR (x := w) pl.typeIs slot_tuple_getitem.lookup
    (getItem_tuple (j := j) (Q := fun r s' => r = w ∧ EP X pins σ Q r s') pl (by omega) (by omega) (by rw [List.size_toArray, ← hl]; exact h1) (by simpa using ew) ⟨rfl, fin⟩) hs
theorem ix_str : IxR X rIxS := by
  intro value slice pins s σ H x y v u Q I rx ry h hs
  obtain ⟨z, i, c, rfl, rfl, hz, he, q⟩ := h
  obtain ⟨t, rfl⟩ := rx
  obtain ⟨t', rfl⟩ := ry
  obtain ⟨j, h1, h2, h3, h4, h5⟩ := atI_get he
  have hl : z.cps.toList.length = z.length := by simp [Str.length]
  rw [hl] at h1 h4 h5
  have hn := line63
  exact tail_any (typeIs_str s z t) slot_str_getitem.lookup (getItem_str (c := c) (by
    have e1 : decide (i < -(2 ^ 63 : Int)) = false := decide_eq_false (by omega)
    have e2 : decide (i ≥ 2 ^ 63) = false := decide_eq_false (by omega)
    rw [e1, e2, Bool.or_false]) (by rw [h1]; simpa using h2) ⟨.str ⟨#[c]⟩, H, I.tok _, ⟨_, rfl⟩, q⟩) hs
/-! ### xs[i] = v, any sign -/
/-- the list's object behind a store -/
theorem mapSeq_set (its : List Value) (n j : Nat) (u : Value) : Obj.mapSeq (·.setIfInBounds j u) { cls := .type "list", data := .seq its.toArray n } = { cls := .type "list", data := .seq (its.set j u).toArray n } := by
  simp [Obj.mapSeq]
theorem Inv.lst {pins : List (Addr × Obj)} {σ : St} {H : Hp} {s : Shared} {p : Addr} {xs : List V} (I : Inv X pins σ H s) (h : H p = some (.lst xs)) :
    ∃ (its : List Value) (n : Nat), Vals xs its ∧ s.heap.get? p = some { cls := .type "list", data := .seq its.toArray n } ∧ xs.length ≤ sizeLine := by
  obtain ⟨z, its, n, r, e⟩ := I.hok p _ h
  exact ⟨its, n, r, e, z⟩
/-- the list at p is written by an update of its object -/
theorem Inv.lstUpd {pins : List (Addr × Obj)} {σ : St} {H : Hp} {s : Shared} {p : Addr} {xs ys : List V} {its its' : List Value} {n n' : Nat} {f : Obj → Obj} (I : Inv X pins σ H s) (h : H p = some (.lst xs))
    (ho : s.heap.get? p = some { cls := .type "list", data := .seq its.toArray n }) (hf : f { cls := .type "list", data := .seq its.toArray n } = { cls := .type "list", data := .seq its'.toArray n' }) (r : Vals ys its') (hz : ys.length ≤ sizeLine) (t : Nat) :
    Inv X pins σ (upd H p (.lst ys)) { s with heap := s.heap.update p f, toks := t } := by
  have e : (s.heap.update p f).get? p = some { cls := .type "list", data := .seq its'.toArray n' } := by
    rw [Heap.get?_update_self f ho (by rw [hf] <;> rfl), hf]
  refine I.write (x := p) (e := p) (by rw [h]; trivial) (.inl rfl) (fun b u hb q => (Heap.get?_update_other _ _ (Ne.symm hb)).trans q) ⟨_, e⟩ ?_
  exact ⟨hz, its', n', r, e⟩
noncomputable def rSetL : V → V → V → Hp → (Hp → Prop) → Prop := fun o i v H Q => ∃ p xs k j, o = .ref p ∧ i = .int k ∧ H p = some (.lst xs) ∧ ixN xs.length k = some j ∧ Q (upd H p (.lst (xs.set j v)))
theorem set_list : PSet X rSetL := by
  intro pins s σ H o i v ov iv u Q I ro ri rv h
  obtain ⟨p, xs, k, j, rfl, rfl, hp, hj, q⟩ := h
  cases ro
  obtain ⟨t, rfl⟩ := ri
  obtain ⟨its, n, r, ho, hz⟩ := I.lst hp
  obtain ⟨h1, h2, h3, h4⟩ := ixN_seq hj
  have hl := r.length
  have hn := line63
  have I' : Inv X pins σ (upd H p (.lst (xs.set j v))) { s with heap := s.heap.update p (Obj.mapSeq (·.setIfInBounds j u)) } :=
    I.lstUpd hp ho (mapSeq_set its n j u) (r.set rv j) (by rw [List.length_set]; exact hz) s.toks
  by_cases h0 : 0 ≤ k
  · have hk : k.toNat = j := by
      rw [seqIndex_of h0 h4] at h1
      exact Option.some.inj h1
    exact PySem.W.ki_setAt ho h0 (by omega) (by rw [List.size_toArray, ← hl]; exact h4) (by rw [hk]; exact ⟨_, I', q⟩)
  · have hk : (k + (its.toArray.size : Int)).toNat = j := by
      rw [seqIndex_neg (by omega) h3] at h1
      rw [List.size_toArray, ← hl]
      exact Option.some.inj h1
    exact PySem.W.ki_setBack ho (by omega) (by rw [List.size_toArray, ← hl]; exact h3) (by omega) (by rw [hk]; exact ⟨_, I', q⟩)

/-! ### slices -/
theorem slice_bounds (lo hi : Option Int) (n : Nat) : (sliceBounds lo hi none n).1 = ((HT.sIx n 0 lo : Nat) : Int) ∧ (sliceBounds lo hi none n).2.1 = ((HT.sIx n n hi : Nat) : Int) ∧ (sliceBounds lo hi none n).2.2 = 1 := by
  refine ⟨?_, ?_, rfl⟩
  · cases lo with
    | none => simp [sliceBounds, HT.sIx]
    | some i =>
      simp only [sliceBounds, HT.sIx, Option.getD_none, show (1 : Int) > 0 by decide, if_true]
      by_cases h : i < 0
      · simp only [h, if_true] <;> omega
      · simp only [h, if_false] <;> omega
  · cases hi with
    | none => simp [sliceBounds, HT.sIx]
    | some i =>
      simp only [sliceBounds, HT.sIx, Option.getD_none, show (1 : Int) > 0 by decide, if_true]
      by_cases h : i < 0
      · simp only [h, if_true] <;> omega
      · simp only [h, if_false] <;> omega
theorem slicePick_cut (its : List Value) (lo hi : Option Int) : slicePick its.toArray lo hi none = ((its.drop (HT.sIx its.length 0 lo)).take (HT.sIx its.length its.length hi - HT.sIx its.length 0 lo)).toArray := by
  obtain ⟨h1, h2, h3⟩ := slice_bounds lo hi its.toArray.size
  unfold slicePick
  rw [h1, h2, h3]
  simp only [sliceRange_one, pick_run, List.size_toArray] <;> rfl
/-- xs[lo:hi] of a list: a new list -/
noncomputable def rSlL (K : PySem.W.Frag) : V → Option Int → Option Int → Hp → VK → Prop := fun x lo hi H Q => ∃ a xs, x = .ref a ∧ SqL K H a xs ∧ ∀ p, H p = none → Q (.ref p) (upd H p (.lst (cutV xs lo hi)))
theorem sl_list : SlR X (rSlL X.K) := by
  intro pins s σ H x v vl vu lo hi sl Q I rx hs pl pu h
  obtain ⟨a, xs, rfl, hx, q⟩ := h
  cases rx
  obtain ⟨its, r, ht, hz⟩ := I.list hx
  have hlen := r.length
  refine ⟨"list", _, slot_list_getitem.lookup, ht.isList.typeIs, ?_⟩
  refine wpAny_getItem_list_slice ht.isList hs pl pu .none (by simp) ?_ (by rw [List.size_toArray] <;> omega)
  rw [slicePick_cut, ← hlen]
  refine ⟨.ref s.heap.objs.size, _, I.laid (t' := s.toks) (o := .lst (cutV xs lo hi)) (fun b ob q => Heap.get?_push_of_some _ q) (Nat.le_refl _) ?_, rfl, q _ (I.hok.fresh (Nat.le_refl _))⟩
  exact ⟨Nat.le_trans (cutV_length xs lo hi) hz, _, 0, (r.drop (HT.sIx xs.length 0 lo)).take (HT.sIx xs.length xs.length hi - HT.sIx xs.length 0 lo), Heap.get?_push_size _ rfl⟩

/-! ### in, not in: flat items -/
noncomputable def flatV : V → Bool
  | .non => true
  | .bl _ => true
  | .int _ => true
  | .str _ => true
  | _ => false
/-- == of flat values -/
noncomputable def eqV : V → V → Bool
  | .non, .non => true
  | .bl a, .bl b => a == b
  | .bl a, .int b => (if a then 1 else 0) == b
  | .int a, .bl b => a == (if b then 1 else 0)
  | .int a, .int b => a == b
  | .str a, .str b => a == b
  | _, _ => false
theorem eqAt_V {A : Around} {s : Shared} {y x : V} {u v : Value} (ry : RelV y u) (rx : RelV x v) (fy : flatV y = true) (fx : flatV x = true) : SeqAt.EqAt A s u v (eqV y x) := by
  cases y with
  | non =>
    cases ry
    cases x with
    | non => cases rx; exact SeqAt.EqAt.same _
    | bl b => cases rx; exact SeqAt.EqAt.none_bool b
    | int b => obtain ⟨t, rfl⟩ := rx; exact SeqAt.EqAt.none_int b t
    | str b => obtain ⟨t, rfl⟩ := rx; exact SeqAt.EqAt.none_str b t
    | _ => exact absurd (show false = true from fx) Bool.false_ne_true
  | bl a =>
    cases ry
    cases x with
    | non => cases rx; exact SeqAt.EqAt.bool_none a
    | bl b => cases rx; exact SeqAt.EqAt.bool_bool a b
    | int b => obtain ⟨t, rfl⟩ := rx; exact SeqAt.EqAt.bool_int a b t
    | str b => obtain ⟨t, rfl⟩ := rx; exact SeqAt.EqAt.bool_str a b t
    | _ => exact absurd (show false = true from fx) Bool.false_ne_true
  | int a =>
    obtain ⟨t', rfl⟩ := ry
    cases x with
    | non => cases rx; exact SeqAt.EqAt.int_none a t'
    | bl b => cases rx; exact SeqAt.EqAt.int_bool a t' b
    | int b => obtain ⟨t, rfl⟩ := rx; exact SeqAt.EqAt.int_int a t' b t
    | str b => obtain ⟨t, rfl⟩ := rx; exact SeqAt.EqAt.int_str a t' b t
    | _ => exact absurd (show false = true from fx) Bool.false_ne_true
  | str a =>
    obtain ⟨t', rfl⟩ := ry
    cases x with
    | non => cases rx; exact SeqAt.EqAt.str_none a t'
    | bl b => cases rx; exact SeqAt.EqAt.str_bool a t' b
    | int b => obtain ⟨t, rfl⟩ := rx; exact SeqAt.EqAt.str_int a t' b t
    | str b => obtain ⟨t, rfl⟩ := rx; exact SeqAt.EqAt.str_str a t' b t
    | _ => exact absurd (show false = true from fx) Bool.false_ne_true
  | _ => exact absurd (show false = true from fy) Bool.false_ne_true
/-! ### len, list(x), tuple(x) of any list or tuple that is read -/
theorem call_len_seq : CallR X (.builtin "len") (fun xs H Q => ∃ p ys, xs = [.ref p] ∧ (SqL X.K H p ys ∨ SqT X.K H p ys) ∧ Q (.int ys.length) H) := by
  intro pins s σ H xs us Q I r h
  obtain ⟨p, ys, rfl, hq, q⟩ := h
  obtain ⟨u, rfl, rx⟩ := vals1 r
  cases rx
  have hn := line63
  rcases hq with hq | hq
  · obtain ⟨its, r', pl, hz⟩ := I.list hq
    have hlen := r'.length
    exact Calls.call_len_list pl.isList (by simp only [List.size_toArray] <;> omega) ⟨.int ys.length, H, I.tok _, ⟨s.toks + 1, by rw [List.size_toArray, hlen]⟩, q⟩
  · obtain ⟨its, r', pl, hz⟩ := I.tuple hq
    have hlen := r'.length
    exact len_tuple pl (by simp only [List.size_toArray] <;> omega) ⟨.int ys.length, H, I.tok _, ⟨s.toks + 1, by rw [List.size_toArray, hlen]⟩, q⟩
theorem call_len_str : CallR X (.builtin "len") (fun xs H Q => ∃ z, xs = [.str z] ∧ z.length ≤ sizeLine ∧ Q (.int z.length) H) := by
  intro pins s σ H xs us Q I r h
  obtain ⟨z, rfl, hz, q⟩ := h
  obtain ⟨u, rfl, t, rfl⟩ := vals1 r
  have hn := line63
  exact len_str (by omega) ⟨.int z.length, H, I.tok _, ⟨_, rfl⟩, q⟩
/-! ### the call of a builtin's method: o.m(..) -/
/-- the value is of that builtin type -/
noncomputable def tyV (K : PySem.W.Frag) (T : String) (x : V) (H : Hp) : Prop := match x with
  | .str _ => T = "str"
  | .int _ => T = "int"
  | .ref p => (T = "list" ∧ ∃ xs, SqL K H p xs) ∨ (T = "tuple" ∧ ∃ o, K.lookup p = some o ∧ o.cls = .type "tuple" ∧ o.dict = none) ∨
      (T = "dict" ∧ ((∃ kvs, H p = some (.dK kvs)) ∨ ∃ kvs, H p = some (.dT kvs))) ∨ (T = "set" ∧ ∃ S n, H p = some (.set S n))
  | _ => False
theorem tyV_is {pins : List (Addr × Obj)} {σ : St} {H : Hp} {s : Shared} {T : String} {x : V} {v : Value} (I : Inv X pins σ H s) (r : RelV x v) (ty : tyV X.K T x H) :
    s.TypeIs v T ∧ ∀ a, v = .ref a → ∃ ob, s.heap.get? a = some ob ∧ ob.dict = none := by
  cases x with
  | str z =>
    obtain ⟨t, rfl⟩ := r
    cases (show T = "str" from ty)
    exact ⟨typeIs_str s z t, fun _ e => nomatch e⟩
  | int i =>
    obtain ⟨t, rfl⟩ := r
    cases (show T = "int" from ty)
    exact ⟨typeIs_int s i t, fun _ e => nomatch e⟩
  | ref p =>
    cases r
    rcases ty with ⟨rfl, xs, hq⟩ | ⟨rfl, o, hk, hc, hd⟩ | ⟨rfl, hk⟩ | ⟨rfl, S, n, hk⟩
    · obtain ⟨its, _, pl, _⟩ := I.list hq
      refine ⟨pl.isList.typeIs, fun a e => ?_⟩
      cases e
      obtain ⟨o, n, e, c, hd, _⟩ := pl
      exact ⟨o, e, hd⟩
    · refine ⟨⟨o, I.kIn p o hk, hc⟩, fun a e => ?_⟩
      cases e
      exact ⟨o, I.kIn _ o hk, hd⟩
    · have z : ∃ o, s.heap.get? p = some o ∧ o.ExactDict := by
        rcases hk with ⟨kvs, hk⟩ | ⟨kvs, hk⟩
        · obtain ⟨_, _, _, _, o, _, _, e, ex, _⟩ := I.hok p _ hk
          exact ⟨o, e, ex⟩
        · obtain ⟨_, _, _, _, o, _, _, e, ex, _⟩ := I.hok p _ hk
          exact ⟨o, e, ex⟩
      obtain ⟨o, e, ex⟩ := z
      refine ⟨⟨o, e, ex.1⟩, fun a e2 => ?_⟩
      cases e2
      exact ⟨o, e, ex.2.1⟩
    · obtain ⟨o, _, _, _, e, ex, _⟩ := I.hok p _ hk
      refine ⟨⟨o, e, ex.1⟩, fun a e2 => ?_⟩
      cases e2
      exact ⟨o, e, ex.2.1⟩
  | _ => exact False.elim ty
noncomputable def tBM0 (K : PySem.W.Frag) (T : String) (r : V → List V → Hp → VK → Prop) (to : TE) : TE := fun σ H Q => to σ H fun x H1 => tyV K T x H1 ∧ r x [] H1 Q
noncomputable def tBM (K : PySem.W.Frag) (T : String) (r : V → List V → Hp → VK → Prop) (to : TE) (t : TA) : TE := fun σ H Q => to σ H fun x H1 => tyV K T x H1 ∧ t σ H1 fun xs H2 => r x xs H2 Q
variable {o e : Expr} {es : List Expr} {to : TE} {t : TA} {name : Str} {apos cpos : Pos} {T id : String} {r : V → List V → Hp → VK → Prop}
theorem pe_bm0 (pa : PlainAttrs T) (slot : Slot T name id) (hty : typeOf (.builtin id) = pure (.type "method_descriptor")) (hm : MtR X id r) (ho : PE X o to)
    (hbase : attributeBase o name X.env (eval o X.env) = eval o X.env := by rfl) (hline : (apos.endLine == cpos.line) = true := by rfl) : PE X (.Call (.Attribute o name apos) [] [] cpos) (tBM0 X.K T r to) := by
  intro pins s σ H Q I h
  refine wpAny_Call_method0_late hbase hline (thn (ho pins s σ H _ I h) fun v s1 ⟨x, H1, I1, r1, ty, q1⟩ => ?_)
  obtain ⟨h1, h2⟩ := tyV_is I1 r1 ty
  exact ⟨T, id, pa, slot, hty, h1, h2, Calls.callWith_builtin rfl (PySem.evalArgs_none (hm pins s1 σ H1 x [] v [] Q I1 r1 .nil q1))⟩
theorem pe_bm (pa : PlainAttrs T) (slot : Slot T name id) (hty : typeOf (.builtin id) = pure (.type "method_descriptor")) (hm : MtR X id r) (ho : PE X o to) (ha : PA X (e :: es) t)
    (hbase : attributeBase o name X.env (eval o X.env) = eval o X.env := by rfl)
    (hfew : ((backTo cpos (starEach (e :: es) X.env)).all (fun x => !x.1) && (backToKw cpos (keywordEach [] X.env)).all (fun x => x.1.isSome)
      && decide ((e :: es).length + ([] : List Keyword).length + (if ([] : List Keyword).isEmpty then 0 else 1) < 30)) = true := by rfl)
    (hline : (apos.endLine == cpos.line) = true := by rfl) (hs : starEach (e :: es) X.env = (false, eval e X.env) :: starEach es X.env := by rfl) (hplain : (backTo cpos (starEach es X.env)).any (·.1) = false := by rfl) :
    PE X (.Call (.Attribute o name apos) (e :: es) [] cpos) (tBM X.K T r to t) := by
  intro pins s σ H Q I h
  refine wpAny_Call_method_late hbase hfew hline rfl (thn (ho pins s σ H _ I h) fun v s1 ⟨x, H1, I1, r1, ty, q1⟩ => ?_)
  obtain ⟨h1, h2⟩ := tyV_is I1 r1 ty
  refine ⟨T, id, pa, slot, hty, h1, h2, ?_⟩
  have hA := ha cpos pins s1 σ H1 _ I1 q1
  rw [hs] at hA ⊢
  refine Calls.callWith_builtin (by show (false || (backTo cpos (starEach es X.env)).any (·.1)) = false; rw [hplain] <;> rfl) (Calls.evalArgs_plain ?_)
  exact thn hA fun us s2 ⟨vs, H2, I2, r2, q2⟩ => hm pins s2 σ H2 x vs v us Q I2 r1 r2 q2
/- xs.append(e), list.index on a module's tuple .. are MtR facts of 06m -/
end
end L2

namespace L2
open PySem PySem.Spec PyProof.Rows

noncomputable def MtM (X : Cx) (id : String) (r : V → List V → Hp → VK → Prop) : Prop :=
  ∀ (pins : List (Addr × Obj)) (s : Shared) (σ : St) (H : Hp) (x : V) (xs : List V) (v : Value) (us : List Value) (Q : VK), Inv X pins σ H s → RelV x v → Vals xs us → r x xs H Q →
    wpAny (model X.prog X.w) X.A (call (.builtin id) (v :: us)) (EP X pins σ Q) X.xe s

/-! ### lists of values -/
theorem Vals.one : ∀ {x : V} {us : List Value}, Vals [x] us → ∃ u, us = [u] ∧ RelV x u
  | _, _, .cons r .nil => ⟨_, rfl, r⟩
theorem Vals.zero : ∀ {us : List Value}, Vals [] us → us = []
  | _, .nil => rfl
theorem Vals.dropLast {xs : List V} {us : List Value} (h : Vals xs us) : Vals xs.dropLast us.dropLast := by
  induction h with
  | nil => exact .nil
  | cons r t ih =>
    cases t with
    | nil => exact .nil
    | cons q t' => exact .cons r ih
theorem erase_last {α : Type} (l : List α) : l.eraseIdx (l.length - 1) = l.dropLast := by
  induction l with
  | nil => rfl
  | cons a r ih =>
    cases r with
    | nil => rfl
    | cons b r =>
      have e : (a :: b :: r).length - 1 = ((b :: r).length - 1) + 1 := by
        have h1 : (a :: b :: r).length = r.length + 2 := rfl
        have h2 : (b :: r).length = r.length + 1 := rfl
        omega
      rw [e, List.eraseIdx_cons_succ, ih]
      all_goals rfl
section
variable {X : Cx} {pins : List (Addr × Obj)} {σ : St} {H : Hp} {s : Shared} {l b : Addr} {xs ys zs : List V}

/-! ### the two steps: a tracked list is rewritten, a new list is laid -/
theorem Inv.lset {its its' : List Value} {n : Nat} {f : Array Value → Array Value} {t' : Nat} (I : Inv X pins σ H s) (hH : H l = some (.lst xs))
    (e : s.heap.get? l = some { cls := .type "list", data := .seq its.toArray n }) (hf : f its.toArray = its'.toArray) (hv : Vals ys its') (hz : ys.length ≤ sizeLine) :
    Inv X pins σ (upd H l (.lst ys)) { s with heap := s.heap.update l (Obj.mapSeq f), toks := t' } := by
  have q := PySem.IsL.update e f
  rw [hf] at q
  refine I.write (x := l) (e := l) (by rw [hH]; exact trivial) (.inl rfl) (fun b' u hb hu => (Heap.get?_update_other s.heap (Obj.mapSeq f) (Ne.symm hb)).trans hu) ⟨_, q⟩ ?_
  exact ⟨hz, its', _, hv, q⟩
theorem Inv.lnew {its : List Value} {t' : Nat} (I : Inv X pins σ H s) (hv : Vals ys its) (hz : ys.length ≤ sizeLine) :
    Inv X pins σ (upd H s.heap.objs.size (.lst ys)) { s with heap := s.heap.push { cls := .type "list", data := .seq its.toArray }, toks := t' } :=
  I.laid (fun _ _ q => Heap.get?_push_of_some _ q) (Nat.le_refl _) ⟨hz, its, 0, hv, Heap.get?_push_size _ rfl⟩
theorem Inv.fresh (I : Inv X pins σ H s) : H s.heap.objs.size = none := I.hok.fresh (Nat.le_refl _)
theorem Inv.lstM (I : Inv X pins σ H s) (hH : H l = some (.lst xs)) : xs.length ≤ sizeLine ∧ ∃ (its : List Value) (n : Nat), Vals xs its ∧ xs.length = its.length ∧ s.heap.get? l = some { cls := .type "list", data := .seq its.toArray n } := by
  obtain ⟨z, its, n, r, e⟩ := I.hok l _ hH
  exact ⟨z, its, n, r, r.length, e⟩

theorem notLongL {n : Nat} (h : n ≤ sizeLine) : Builtin.List.listTooLong n = false := by
  unfold Builtin.List.listTooLong
  exact decide_eq_false (by omega)
end

section
variable {X : Cx}

/-! ### methods -/
noncomputable def rAppend : V → List V → Hp → VK → Prop := fun x vs H Q => ∃ l xs y, x = .ref l ∧ vs = [y] ∧ H l = some (.lst xs) ∧ xs.length < sizeLine ∧ Q .non (upd H l (.lst (xs ++ [y])))
theorem mt_append : MtM X "list.append" rAppend := by
  intro pins s σ H x vs v us Q I rx rv h
  obtain ⟨l, xs, y, rfl, rfl, hH, hz, q⟩ := h
  cases rx
  obtain ⟨u, rfl, ru⟩ := rv.one
  obtain ⟨z, its, n, r, hl, e⟩ := I.lstM hH
  refine call_meets F.slot_list_append ⟨_, e, rfl⟩ F.entry_list_append (F.args_list_append_2 _ _) (PySem.list_append l its.toArray n u (by rw [List.size_toArray]; omega)) ⟨e, ?_⟩
  refine ⟨.non, _, I.lset (its' := its ++ [u]) hH e (by simp) (r.append (.cons ru .nil)) ?_, rfl, q⟩
  rw [List.length_append, List.length_singleton]
  omega

noncomputable def rExtend : V → List V → Hp → VK → Prop := fun x vs H Q => ∃ l b xs zs, x = .ref l ∧ vs = [.ref b] ∧ H l = some (.lst xs) ∧ H b = some (.lst zs) ∧ xs.length + zs.length ≤ sizeLine ∧ Q .non (upd H l (.lst (xs ++ zs)))
theorem mt_extend : MtM X "list.extend" rExtend := by
  intro pins s σ H x vs v us Q I rx rv h
  obtain ⟨l, b, xs, zs, rfl, rfl, hH, hB, hz, q⟩ := h
  cases rx
  obtain ⟨u, rfl, ru⟩ := rv.one
  cases ru
  obtain ⟨z, its, n, r, hl, e⟩ := I.lstM hH
  obtain ⟨z2, its2, n2, r2, hl2, e2⟩ := I.lstM hB
  have hsz : its.toArray.size + its2.toArray.size ≤ sizeLine := by rw [List.size_toArray, List.size_toArray]; omega
  have hlong : ¬ (!its.toArray.isEmpty && Builtin.List.listTooLong (its.toArray.size + its2.toArray.size)) = true := by
    rw [notLongL hsz, Bool.and_false]
    exact Bool.false_ne_true
  refine call_meets F.slot_list_extend ⟨_, e, rfl⟩ F.entry_list_extend (F.args_list_extend_2 _ _)
    (AutoSeq1.list_extend_list_list_0 l its.toArray n b its2.toArray n2 hlong (by rw [List.size_toArray]; omega) (by omega)) ⟨e, e2, ?_⟩
  refine ⟨.non, _, I.lset (its' := its ++ its2) hH e (by simp) (r.append r2) ?_, rfl, q⟩
  rw [List.length_append]
  omega

noncomputable def rPop : V → List V → Hp → VK → Prop := fun x vs H Q => ∃ l xs y, x = .ref l ∧ vs = [] ∧ H l = some (.lst xs) ∧ xs[xs.length - 1]? = some y ∧ Q y (upd H l (.lst xs.dropLast))
theorem mt_pop : MtM X "list.pop" rPop := by
  intro pins s σ H x vs v us Q I rx rv h
  obtain ⟨l, xs, y, rfl, rfl, hH, hy, q⟩ := h
  cases rx
  have hus := rv.zero
  subst hus
  obtain ⟨z, its, n, r, hl, e⟩ := I.lstM hH
  obtain ⟨u, hu, ru⟩ := r.get hy
  have hy' : its.toArray[its.toArray.size - 1]? = some u := by
    show its.toArray[its.length - 1]? = some u
    rw [← Array.getElem?_toList, ← hl]
    exact hu
  refine call_meets F.slot_list_pop ⟨_, e, rfl⟩ F.entry_list_pop (F.args_list_pop_1 _) (MeetsSeq.list_pop_last l its.toArray n u hy' (by rw [List.size_toArray]; omega)) ⟨e, ?_⟩
  refine ⟨y, _, I.lset (its' := its.dropLast) hH e ?_ r.dropLast ?_, ru, q⟩
  · show its.toArray.eraseIdxIfInBounds (its.toArray.size - 1) = its.dropLast.toArray
    rw [List.size_toArray, List.eraseIdxIfInBounds_toArray, erase_last]
  · rw [List.length_dropLast]
    omega

/-! ### list + list, list += list, list * int -/
noncomputable def rCat : R2 := fun x y H Q => ∃ l b xs zs, x = .ref l ∧ y = .ref b ∧ H l = some (.lst xs) ∧ H b = some (.lst zs) ∧ xs.length + zs.length ≤ sizeLine ∧ ∀ p, H p = none → Q (.ref p) (upd H p (.lst (xs ++ zs)))
theorem op_cat : OpR X (binaryOp .Add) rCat := by
  intro pins s σ H x y v u Q I rx ry h
  obtain ⟨l, b, xs, zs, rfl, rfl, hH, hB, hz, q⟩ := h
  cases rx
  cases ry
  obtain ⟨z, its, n, r, hl, e⟩ := I.lstM hH
  obtain ⟨z2, its2, n2, r2, hl2, e2⟩ := I.lstM hB
  refine PySem.P.add_list e e2 ?_ (by rw [List.size_toArray, List.size_toArray]; omega)
  have ea : its.toArray ++ its2.toArray = (its ++ its2).toArray := by simp
  rw [ea]
  exact ⟨.ref _, _, I.lnew (t' := s.toks) (r.append r2) (by rw [List.length_append]; omega), rfl, q _ I.fresh⟩
/-! ### del xs[i] -/
end

/-! ### xs[a:b] = ys -/
section
variable {prog : Program} {w : World} {A : Around} {E : Value → Shared → Prop} {s : Shared}
set_option maxRecDepth 100000 in
end

section
variable {X : Cx}
end
end L2

namespace Att
open PySem PySem.W PySem.Calls PyProof.Rows

/-! ### the script -/
theorem ints_of_wellAll {P : Params} {h : Heap} : ∀ (ns : List Int) (vs : List Value), WellAll P h vs (ns.map WData.int) → IntsAre vs ns := by
  intro ns
  induction ns with
  | nil =>
    intro vs w
    rw [List.map_nil] at w
    cases w
    exact .nil
  | cons n ns ih =>
    intro vs w
    rw [List.map_cons] at w
    cases w with
    | cons a b =>
      cases a
      exact .cons _ _ (ih _ b)

theorem script_of {l : OpenLaw} {n : Nat} (hn : l.most = some n) {P : Params} {h : Heap} {args : List WData} {vals : List Value}
    (hpre : l.row.toRowW.claim.pre args = true) (hwl : WellAll P h vals args) :
    ∃ a vs ns, vals = [Value.ref a] ∧ args = [WData.list (ns.map WData.int)] ∧ h.get? a = some { cls := .type "list", data := .seq vs.toArray } ∧ IntsAre vs ns ∧ ns.length ≤ n := by
  have hsh : WShape.hasAll [] args [.list .int] = true := (pre_splitW hpre).1
  have hc : l.pre.holds [] { args := args } = true := (pre_splitW hpre).2
  obtain ⟨d, r, rfl, h1, h2⟩ := hasAllW_cons hsh
  obtain rfl := hasAllW_nil h2
  obtain ⟨xs, rfl, h3⟩ := hasW_list h1
  obtain ⟨ns, rfl⟩ := items_int h3
  have hlen : ns.length ≤ n := by
    unfold OpenLaw.pre at hc
    have h4 : (WTm.not (.lt (.lit (.int (n : Int))) (.len (.arg 0)))).holds [] { args := [.list (ns.map .int)] } = true := by
      have h4 := (holds_andW hc).1
      rw [hn] at h4
      exact h4
    have h5 := condW_of h4 (w_not (w_lt w_lit (w_len_list (w_arg rfl))))
    rw [List.length_map] at h5
    refine Nat.le_of_not_lt fun q => ?_
    have q' : (n : Int) < ((ns.length : Nat) : Int) := by omega
    first
      | (rw [decide_eq_true q'] at h5; exact absurd h5 (by decide))
      | (simp at h5; omega)
  cases hwl with
  | cons w1 w2 =>
    cases w2
    cases w1 with
    | list ho hall => exact ⟨_, _, ns, rfl, rfl, ho, ints_of_wellAll ns _ hall, hlen⟩

theorem post_true (l : OpenLaw) (args : List WData) : l.row.toRowW.claim.post args (.bool true) args = true :=
  postW_of (r := l.row.toRowW) (X := (true == true))
    (show WShape.has [] (.bool true) .bool = true by first | rfl | decide | simp [WShape.has, WShape.arms, WShape.armsAll])
    (show (WTm.eq .res (.lit (.bool true))).value [] { args := args, res := some (.bool true), after := args } = some (.bool (true == true)) from w_eq_bool (w_res rfl) w_lit) rfl

/-! ### the attachment: holds_open's last premise (the goal 'hc' behind k_head) from a wpAny of the law's body -/
/-- the same from a codeAny of the CALL (for a layer whose function contracts speak of calls) -/
theorem attach_call {l : OpenLaw} {n : Nat} {q : Program} {loose : List Str} {XP : (Str → Option Value) → Heap → Prop} {YP : World → Heap → Prop} {d : DefRec}
    (hn : l.most = some n) (hdf : d.params.defaults = [])
    (call : ∀ (w : World) (s₀ s₁ : Shared) (mg mb : Str → Option Value) (fa : Addr) (o : Obj) (pm cd doc : Value) (a : Addr) (vs : List Value) (ns : List Int),
      Ground q loose [] XP w s₀ mg mb s₁.heap → YP w s₁.heap →
      s₁.heap.get? fa = some o → o.data = .func (docDef d.name d.params d.body d.scope pm cd doc) → s₁.heap.CodeRec cd d.name → mg d.name = some (.ref fa) →
      s₁.heap.get? a = some { cls := .type "list", data := .seq vs.toArray } → IntsAre vs ns → ns.length ≤ n → s₁.gens = #[] →
      codeAny (model l.prog w) callerA (.call (.ref fa) ⟨[.ref a], []⟩) (fun r s' => r = .ok (.ret (.bool true)) ∧ OldK s₁.heap s'.heap ∧ s'.os = s₁.os ∧ AllBare s'.gens) s₁) :
    WalkO q loose XP YP l.row.toRowW d [] (fun f vs => PySem.call f vs) := by
  intro w s₀ s₁ mg mb G Y fa o pm cd doc dV kV ho hd hcd hD hmg hg args vals as hpre hlay hrd hwl hlo
  obtain rfl : dV = .none := Dflts.none hD hdf
  obtain rfl : kV = .none := Dflts.noKw hD
  obtain ⟨a, vs, ns, rfl, rfl, hobj, hints, hlen⟩ := script_of hn hpre hwl
  refine enter_call (codeAny_mono (call w s₀ s₁ mg mb fa o pm cd doc a vs ns G Y ho (fd_plain hd) hcd hmg hobj hints hlen hg) fun r s' hq => ?_)
  obtain ⟨rfl, h2, h3, h4⟩ := hq
  exact ⟨.inl ⟨.bool true, .bool true, [], rfl, fun _ => rfl, .bool true, post_true l _, fun _ => ⟨List.Pairwise.nil, fun _ hm => (nomatch hm)⟩⟩, h2, h3, h4⟩

/-! ### rules over ANY heap (no ledger) from facts about the written part K: the library's own take a ledger (News) for what they write -/
section
variable {prog : Program} {w : World} {A : Around} {E : Value → Shared → Prop} {s : Shared} {K : Frag}

/-! the whole heap as the ledger: makes every rule that writes through a ledger a rule over any heap -/
noncomputable def ledger (h : Heap) (L d : Addr) : List (Addr × Obj) := (List.range h.objs.size).filterMap fun a => if a = L ∨ a = d then none else (h.get? a).map fun o => (a, o)
end
end Att

namespace L2
open PySem PySem.Spec PyProof.Rows

theorem vals_ints : ∀ {vs : List Value} {ns : List Int}, IntsAre vs ns → Vals (ns.map V.int) vs
  | _, _, .nil => .nil
  | _, _, .cons n t h => .cons ⟨t, rfl⟩ (vals_ints h)

/-- nothing is tracked but the script, known to the object (or it is an object of the module) -/
noncomputable def Only (H : Hp) : Prop := ∀ b, H b = none ∨ ∃ o xs, H b = some (.frz o (.lst xs))

/-- THE HEAD: the law's promise, at the heap behind the top. F, the promise of the law's def, may use that base is part of the heap (so K.In base, base.Ns mainGlobals mg stand in Mod) -/
theorem law_call {P : Program} {w : World} {K : PySem.W.Frag} {mg mb : Str → Option Value} {CX : CXT} {k : Nat} {fa a : Addr} {fd : FuncData} {x : Str} {sp : Sp} {s₁ : Shared} {vs : List Value} {ns : List Int}
    (KX : K.In s₁.heap) (hns : s₁.heap.Ns mainGlobals mg) (hb : s₁.heap.Ns builtinsNs mb) (hbb : ∀ x : Str, x ≠ "__name__" → mb x = bootBuiltins x) (hlim : s₁.heap.NoLimit) (hg : s₁.gens = #[])
    (ha : s₁.heap.get? a = some { cls := .type "list", data := .seq vs.toArray }) (hi : IntsAre vs ns) (hl : ns.length ≤ sizeLine) (hr : Room k callerA)
    (F : ∀ base : Heap, K.In base → base.Ns mainGlobals mg → FnOk P w K mg base CX k fa fd [x] sp) (hbind : ∀ (s : Shared) (u : Value), BindsTo s fd ⟨[u], []⟩ [(x, u)])
    (hsp : ∀ H : Hp, Only H → SqL K H a (ns.map V.int) → sp [.ref a] H (fun v _ => v = .bl true) fun _ _ _ => False)
    (hCX : ∀ H e s', CX [] H s₁ (fun _ _ _ => False) e s' → False) :
    codeAny (model P w) callerA (.call (.ref fa) ⟨[.ref a], []⟩) (fun r s' => r = .ok (.ret (.bool true)) ∧ OldK s₁.heap s'.heap ∧ s'.os = s₁.os ∧ AllBare s'.gens) s₁ := by
  have rv := vals_ints hi
  have lenV := hi.length
  -- from an abstract heap in which nothing but the script may be tracked
  have core : ∀ H : Hp, Only H → SqL K H a (ns.map V.int) → HOk P w H s₁.heap → (∀ b, H b ≠ none → b = a) → (H a ≠ none → K.lookup a = none) →
      codeAny (model P w) callerA (.call (.ref fa) ⟨[.ref a], []⟩) (fun r s' => r = .ok (.ret (.bool true)) ∧ OldK s₁.heap s'.heap ∧ s'.os = s₁.os ∧ AllBare s'.gens) s₁ := by
    intro H hO hS hok hA hK
    have base_of : ∀ {b : Addr} {o : Obj}, s₁.heap.get? b = some o → H b = none → (hidT s₁.heap H).get? b = some o := fun e n => hidT_get e n
    have noA : ∀ {b : Addr} {o : Obj} {es : Array DictEntry} {ep : Nat}, s₁.heap.get? b = some o → o.data = .dict es ep → H b = none := fun {b o es ep} e d => by
      cases q : H b with
      | none => rfl
      | some u =>
        have e' : b = a := hA b (by rw [q]; simp)
        subst e'
        rw [ha] at e; cases e
        have d' : Data.seq vs.toArray _ = Data.dict es ep := d
        cases d'
    have nsK : ∀ {b : Addr} {m : Str → Option Value}, s₁.heap.Ns b m → (hidT s₁.heap H).Ns b m := fun {b m} ⟨o, es, ep, e, d, r⟩ => ⟨o, es, ep, base_of e (noA e d), d, r⟩
    have hKb : K.In (hidT s₁.heap H) := fun b o e => base_of (KX b o e) (by
      cases q : H b with
      | none => rfl
      | some u =>
        have e' : b = a := hA b (by rw [q]; simp)
        subst e'
        rw [hK (by rw [q]; simp)] at e; cases e)
    have hM : Mod K mg (hidT s₁.heap H) := ⟨hKb, nsK hns, ⟨mb, nsK hb, hbb⟩, let ⟨mc, h1, h2⟩ := hlim; ⟨mc, nsK h1, h2⟩⟩
    have e0 : Env0 P w K mg (hidT s₁.heap H) callerA [] s₁ H := ⟨rfl, hM, fun b o e => of_hidT e, Nat.le_of_eq (hidT_size _ _), trivial, fun b hb => absurd (show b ∈ ([] : List Addr) from hb) (by simp), hok, .of_eq hg⟩
    refine codeAny_mono ((F _ hKb (nsK hns)).run callerA [] s₁ H ⟨[.ref a], []⟩ [.ref a] [.ref a] _ _ hr e0 (hbind s₁ (.ref a)) (.cons rfl .nil) (hsp H hO hS)) fun r s' h => ?_
    cases r with
    | error e => exact (hCX H e s' h).elim
    | ok fl =>
      cases fl with
      | next => exact False.elim h
      | brk => exact False.elim h
      | cont => exact False.elim h
      | ret u =>
        obtain ⟨v, H', os, bare, un, hok', r', q⟩ := h
        have q' : v = .bl true := q
        subst q'
        obtain rfl : u = Value.bool true := r'
        refine ⟨rfl, OldK.of_keep fun b o e => ?_, os, bare⟩
        cases q : H b with
        | none => exact un.keep b o e q (by intro z; exact absurd (show b ∈ ([] : List Addr) from z) (by simp)) (by simp)
        | some u =>
          rcases hO b with z | ⟨ob, xs, z⟩
          · rw [q] at z; cases z
          · have z2 := un.frzs b ob _ z
            obtain ⟨e1, _⟩ := hok b _ z
            obtain ⟨e2, _⟩ := hok' b _ z2
            rw [e] at e1; cases e1
            exact e2
  cases hk : K.lookup a with
  | some o =>
    -- the script is one of the module's own objects
    have e := KX a o hk
    rw [ha] at e
    cases e
    refine core (fun _ => none) (fun _ => .inl rfl) (.inr ⟨_, vs.toArray, _, hk, rfl, rfl, rfl, by rw [List.size_toArray, lenV]; exact hl, by simpa using rv⟩) (fun b u z => by have z' : (none : Option HO) = some u := z; cases z') (fun b z => absurd rfl z) fun z => absurd rfl z
  | none =>
    refine core (fun b => if b = a then some (.frz { cls := .type "list", data := .seq vs.toArray } (.lst (ns.map V.int))) else none) (fun b => ?_) (.inl (.inr ⟨{ cls := .type "list", data := .seq vs.toArray }, if_pos rfl⟩)) (fun b u z => ?_) (fun b z => ?_) fun _ => hk
    · by_cases hb : b = a
      · exact .inr ⟨_, _, if_pos hb⟩
      · exact .inl (if_neg hb)
    · by_cases hb : b = a
      · have z' := (if_pos hb).symm.trans z
        cases z'
        subst hb
        exact ⟨ha, by rw [List.length_map]; exact hl, vs, _, rv, ha⟩
      · have z' := (if_neg hb).symm.trans z
        cases z'
    · by_cases hb : b = a
      · exact hb
      · exact absurd (if_neg hb) z
end L2

namespace L2
open PySem PySem.Spec PyProof.Rows

noncomputable abbrev KOf {K : PySem.W.Frag} {h : Heap} (_ : K.In h) : PySem.W.Frag := K

/-- the goal that k_head leaves (case hc), from the law's promise. F gives the function object fd (K's own) once, then the promise over every base -/
theorem walk_of {l : PySem.W.OpenLaw} {n k : Nat} {q : Program} {loose : List Str} {XP : (Str → Option Value) → Heap → Prop} {YP : World → Heap → Prop} {d : DefRec} {K : Params → PySem.W.Frag} {CX : World → CXT} {sp : World → Sp} {x : Str}
    (hn : l.most = some n) (hn2 : n ≤ sizeLine) (hdf : d.params.defaults = []) (hr : Room k callerA)
    (hY : ∀ (w : World) (h : Heap), YP w h → (K w.params).In h)
    (F : ∀ (w : World) (mg : Str → Option Value) (fa : Addr) (h : Heap), (K w.params).In h → h.Ns mainGlobals mg → mg d.name = some (.ref fa) →
      ∃ fd : FuncData, (∀ (s : Shared) (u : Value), BindsTo s fd ⟨[u], []⟩ [(x, u)]) ∧
        ∀ base : Heap, (K w.params).In base → base.Ns mainGlobals mg → FnOk l.prog w (K w.params) mg base (CX w) k fa fd [x] (sp w))
    (hsp : ∀ (w : World) (H : Hp) (a : Addr) (ns : List Int), ns.length ≤ n → Only H → SqL (K w.params) H a (ns.map V.int) → sp w [.ref a] H (fun v _ => v = .bl true) fun _ _ _ => False)
    (hCX : ∀ (w : World) (H : Hp) (s : Shared) (e : Value) (s' : Shared), CX w [] H s (fun _ _ _ => False) e s' → False) :
    PySem.W.WalkO q loose XP YP l.row.toRowW d [] (fun f vs => PySem.call f vs) := by
  refine Att.attach_call hn hdf fun w s₀ s₁ mg mb fa o pm cd doc a vs ns G Y ho hd hcd hmg hobj hints hlen hg => ?_
  have KX := hY w _ Y
  obtain ⟨fd, hb, hF⟩ := F w mg fa _ KX G.T.g hmg
  exact law_call KX G.T.g G.T.b G.T.builtins G.T.nolimit hg hobj hints (Nat.le_trans hlen hn2) hr hF hb (fun H hO hS => hsp w H a ns hlen hO hS) fun H e s' => hCX w H s₁ e s'
end L2

/- THE LAST THEOREM (shape; LID, My.* are yours):
   My.Adr: a structure of the addresses that your layer names (classes, functions); My.Txt K t: a structure (Prop) of the equations over K;
   My.txt_mk : {K} {implicit addresses ..} (e1 : nsIn K mainGlobals "law" = some (some (.ref f))) (e2 : K.lookup f = some ⟨oc, od, .func (fnOf "law" "law" params body scope dV kV doc pm an cdv ct), sl⟩) (e3 : codeIn K cdv "law" = true) .. : ∃ t, My.Txt K t

set_option maxRecDepth 100000 in
set_option maxHeartbeats 0 in
theorem PySem.Challenge.cw_LID_holds : PySem.Challenge.rw_LID.Holds := by
  w_on; o_law; k_head; (case hw => w_witness2)
  k_fill
  refine L2.walk_of (l := PySem.Challenge.rw_LID) (n := 63) (k := 40) (x := "script") (CX := fun w => ..) (sp := fun _ => My.sp_law) rfl (by decide) rfl ⟨rfl, by decide, by decide⟩ (fun w h Y => PySem.W.kIn_of Y) ?F ?S ?C
  case F =>
    intro w mg fa h KX G hmg
    have T : ∃ t, My.Txt (L2.KOf KX) t := by
      dsimp only [L2.KOf]                          -- K must stand as «<heap const> w.params» for k_is
      refine' My.txt_mk ?e1 ?e2 ?e3 ..
      (case e1 => PySem.W.k_is)                    -- in the order: a name -> its address -> its object -> its parts
      (case e2 => PySem.W.k_is)
      ..
    obtain ⟨t, T⟩ := T
    have e0 := hmg.symm.trans (PySem.W.mg_of KX G T.law)
    cases e0                                       -- fa is the law's own address
    exact ⟨_, fun s u => .of_eq rfl, fun base kb nb => My.law_fn T kb nb⟩     -- if «.of_eq rfl» comes too early: refine' ⟨_, ?b, fun base kb nb => My.law_fn T kb nb⟩; exact fun s u => .of_eq rfl
  case S => exact fun w H a ns hl hO hS => ..
  case C => exact ..
(the tactic k_is has no namespace: write k_is) -/

/-! SHORT WORDS over the layer: a def of the text, its body, what a loop and a test want. -/
namespace L2
open PySem PySem.Spec PyProof.Rows

/-! ### the text by places -/
/-- the j-th statement of a class's body -/
noncomputable def inClass (s : Stmt) (j : Nat) : Stmt := match s with
  | .ClassDef _ _ _ body _ _ _ _ _ _ _ => body.getD j (.Pass ⟨0, 0, 0, 0⟩)
  | _ => .Pass ⟨0, 0, 0, 0⟩
noncomputable def defArgs (s : Stmt) : Arguments := match s with
  | .FunctionDef _ a _ _ _ _ _ _ _ _ => a
  | _ => { posonlyargs := [], args := [], vararg := none, kwonlyargs := [], kw_defaults := [], kwarg := none, defaults := [] }
noncomputable def defBody (s : Stmt) : List Stmt := match s with
  | .FunctionDef _ _ b _ _ _ _ _ _ _ => b
  | _ => []
noncomputable def defScope (s : Stmt) : Scope := match s with
  | .FunctionDef _ _ _ _ _ _ sc _ _ _ => sc
  | _ => { kind := .function, names := [], isGenerator := false, isCoroutine := false }

/-! ### no exception leaves a def -/
noncomputable abbrev CX0 : CXT := fun _ _ _ _ _ _ => False
noncomputable abbrev E0 : XK := fun _ _ _ => False
/-! ### a def (or method) of the text as it stands behind the top -/
structure Fun (K : PySem.W.Frag) (x qual : Str) (st : Stmt) (f : Addr) (fd : FuncData) : Prop where
  ex : ∃ (oc : Value) (od : Option Addr) (kV doc pm : Value) (an : Option Addr) (cdv ct : Value) (osl : Array (Option Value)),
    fd = PySem.W.fnOf x qual (defArgs st) (defBody st) (defScope st) .none kV doc pm an cdv ct ∧ K.lookup f = some ⟨oc, od, .func fd, osl⟩ ∧ PySem.W.codeIn K cdv qual = true
  kp : PySem.W.keepIn K (.ref f) = true
section
variable {P : Program} {w : World} {K : PySem.W.Frag} {mg : Str → Option Value} {base : Heap}
/-- THE RULE for a def: its body as a term of rules, and the reading of that term -/
theorem Fun.ok {x qual : Str} {st : Stmt} {f : Addr} {fd : FuncData} {N ps : List Str} {k : Nat} {sp : Sp} (F : Fun K x qual st f fd) (S : FnScope N ps (defScope st)) (len : ∀ vs H Q E, sp vs H Q E → vs.length = ps.length)
    (hbody : ∀ (cdv : Value) (A : Around) (outer : List Env) (s : Shared) (H : Hp) (vs : List V) (Q : VK) (E : XK), Room k (A.deeper (envOfC qual (defScope st) s.heap.objs.size f cdv)) → sp vs H Q E →
      ∃ t, PSs (cxOf CX0 P w K mg base N qual (defScope st) f cdv A outer s H E).nox (defBody st) t ∧ t { nx := fun _ H' => Q .non H', rt := Q } (start N vs) H) : FnOk P w K mg base CX0 (k + 1) f fd ps sp := by
  obtain ⟨oc, od, kV, doc, pm, an, cdv, ct, osl, rfl, lk, hcd⟩ := F.ex
  refine fn_of lk hcd S len fun A outer s H vs Q E hr hsp => ?_
  obtain ⟨t, h, q⟩ := hbody cdv A outer s H vs Q E hr hsp
  exact ⟨t, h.nox, q⟩
/-- how its arguments bind (no defaults): h is «fun _ _ _ _ _ _ us hl => match us, hl with | [_, _], _ => rfl», one _ a parameter -/
theorem Fun.binds {x qual : Str} {st : Stmt} {f : Addr} {fd : FuncData} {ps : List Str} (F : Fun K x qual st f fd)
    (h : ∀ (kV doc pm : Value) (an : Option Addr) (cdv ct : Value) (us : List Value), us.length = ps.length → bindArgs (PySem.W.fnOf x qual (defArgs st) (defBody st) (defScope st) .none kV doc pm an cdv ct) ⟨us, []⟩ = pure (ps.zip us)) : Binds K fd ps [] := by
  obtain ⟨oc, od, kV, doc, pm, an, cdv, ct, osl, rfl, lk, hcd⟩ := F.ex
  exact .all (h kV doc pm an cdv ct)
theorem fun_mk {x qual : Str} {st : Stmt} {f : Addr} {oc : Value} {od an : Option Addr} {osl : Array (Option Value)} {kV doc pm cdv ct : Value} (l : K.lookup f = some ⟨oc, od, .func (PySem.W.fnOf x qual (defArgs st) (defBody st) (defScope st) .none kV doc pm an cdv ct), osl⟩)
    (c : PySem.W.codeIn K cdv qual = true) (k : PySem.W.keepIn K (.ref f) = true) : Fun K x qual st f (PySem.W.fnOf x qual (defArgs st) (defBody st) (defScope st) .none kV doc pm an cdv ct) := ⟨⟨oc, od, kV, doc, pm, an, cdv, ct, osl, rfl, l, c⟩, k⟩
end
theorem hu_of {A : Around} {k : Nat} (hr : Room k A) : A.units + 1 < cLine := Nat.lt_of_le_of_lt (Nat.add_le_add_left (by decide : 1 ≤ 64) _) hr.units
/-! ### expressions in short: the name that stands in the i-th slot -/
section
variable {X : Cx}
theorem pv (i : Nat) {x : Str} {pos : Pos} (hN : X.N[i]? = some x := by rfl) (hv : Vis X.env.scope x := by first | exact Or.inl rfl | exact Or.inr (Or.inl rfl) | exact Or.inr (Or.inr rfl)) (hd : (x == ("__debug__" : Str)) = false := by decide)
    (hcd : (x == ("__classdict__" : Str)) = false := by decide) : PE X (.Name x pos) (tVar i) := pe_var hN hv hd hcd
end

/-! ### tests -/
theorem iteF {A B : Prop} (h : B) : if false = true then A else B := by
  rw [if_neg Bool.false_ne_true]
  exact h
theorem iteT {A B : Prop} (h : A) : if true = true then A else B := by
  rw [if_pos rfl]
  exact h
theorem ite2 {c A B : Prop} [Decidable c] (h1 : c → A) (h2 : ¬ c → B) : if c then A else B := by
  by_cases h : c
  · rw [if_pos h]
    exact h1 h
  · rw [if_neg h]
    exact h2 h
theorem iteNS {c A B : Prop} [Decidable c] (hc : c) (h : B) : if (!decide c) = true then A else B := by
  rw [decide_eq_true hc]
  exact iteF h

/-! ### heaps -/
/-- all that was tracked is as it was -/
noncomputable def Same (H H' : Hp) : Prop := ∀ b o, H b = some o → H' b = some o
theorem Same.refl (H : Hp) : Same H H := fun _ _ h => h
theorem Same.trans {H H1 H2 : Hp} (a : Same H H1) (b : Same H1 H2) : Same H H2 := fun c o h => b c o (a c o h)
theorem Same.free {H H' : Hp} (e : Same H H') {l : Addr} (h : H' l = Option.none) : H l = Option.none := by
  cases q : H l with
  | none => rfl
  | some o =>
    rw [e l o q] at h
    cases h
theorem Same.seq {K : PySem.W.Frag} {H H' : Hp} {a : Addr} {xs : List V} (e : Same H H') (h : SqL K H a xs) : SqL K H' a xs := by
  rcases h with (h | ⟨o, h⟩) | h
  · exact .inl (.inl (e _ _ h))
  · exact .inl (.inr ⟨o, e _ _ h⟩)
  · exact .inr h

end L2

set_option Elab.async false
set_option linter.all false
set_option maxRecDepth 100000
set_option maxHeartbeats 4000000
/-! Own rules over the hand layer: // by any small divisor, sum, isinstance, texts (loop, slice, join, times), comprehensions. -/
namespace L2
open PySem PySem.Spec PyProof.Rows
section
variable {X : Cx}

/-! ### // by a divisor of any usual size -/
noncomputable def CDivL (i j : Int) : Prop := 0 < j ∧ j.natAbs.log2 < 9000
theorem op_fdivL : OpR X (binaryOp .FloorDiv) (rI CDivL fun i j => .int (i / j)) := opI fun i j _ _ _ _ _ hc q => by
  have h1 : (0 : Int) < j := hc.1
  exact floordiv_int (by omega) (by rw [Int.fdiv_eq_ediv_of_nonneg i (by omega)]; exact q) (.inl (PyProof.noPylong_of_log2 hc.2))

/-! ### sum of a list of ints -/
/-! ### isinstance of one class -/
theorem call_isinst : CallR X (.builtin "isinstance") (fun xs H Q => ∃ x c cv t b, xs = [x, c] ∧ (∀ u, RelV c u → u = cv) ∧ TyOf X.K H x t ∧ PySem.W.kitOne X.K t cv = some b ∧ Q (.bl b) H) := by
  intro pins s σ H xs us Q I r h
  obtain ⟨x, c, cv, t, b, rfl, hcv, ty, e, q⟩ := h
  obtain ⟨u, w', rfl, r1, r2⟩ := vals2 r
  rw [hcv w' r2]
  exact isinst_ok I r1 ty e fun tk => ⟨.bl b, H, I.tok _, rfl, q⟩
theorem relTy {n : String} : ∀ u, RelV (.ty n) u → u = Value.type n := fun _ h => h

/-! ### texts -/
noncomputable def Its (x : Str) : It := ⟨fun i _ => i < x.cps.size, fun i H v H' => H' = H ∧ ∃ c, x.cps[i]? = some c ∧ v = .str ⟨#[c]⟩, fun i _ => i = x.cps.size⟩
theorem turn_str {P : Program} {w : World} {K : PySem.W.Frag} {tg : Expr} (it : Addr) (ty : String) (x : Str) (t : Tok)
    (W : ∀ A : Around, A.handled = none → Walks P w A it [it] [it] x.cps.size (SignAt x) (fun i h => h.IsStrIter it ty x t i))
    (hty : ["enumerate", "zip", "dict_itemiterator", "dict_reverseitemiterator", "odict_iterator", "itertools.zip_longest", "itertools.pairwise"].contains ty = false)
    (hself : ∀ (A : Around) (i : Nat) (s : Shared) (Q : Value → Shared → Prop) (E : Value → Shared → Prop), s.heap.IsStrIter it ty x t i → Q (.ref it) s → wpAny (model P w) A (pyIter (.ref it)) Q E s) :
    Turn P w K tg (Its x) [it] it (fun i h => h.IsStrIter it ty x t i) where
  mem := by simp
  obj := fun i h st b hb => by
    have e : b = it := by simpa using hb
    subst e
    obtain ⟨o, e, c, d⟩ := st
    exact ⟨o, e, fun v z => by rw [d] at z; cases z⟩
  keep := fun i h h' st k => by
    obtain ⟨o, e, c, d⟩ := st
    exact ⟨o, k it (by simp) o e, c, d⟩
  item := by
    intro X hP hw hK hc i pins s σ H E I hf st hg
    subst hP hw hK
    obtain ⟨f0, f1, f2, f3, f4, f5⟩ := hf it (by simp)
    refine (W X.A (I.ok.hd hc)).item i s _ _ hg st fun v h' tk hv st' kk => ?_
    obtain ⟨c, u, ec, rfl⟩ := hv
    have I1 : Inv X pins σ H { s with heap := h', toks := tk } := I.turned (fun b o hb e => kk b o (by simpa using hb) e) f0 f1 f3 f4 f5
    obtain ⟨o, e, cl, d⟩ := id st'
    exact ⟨_, rfl, go_of (s := { s with heap := h', toks := tk }) e cl d hty ⟨.str ⟨#[c]⟩, H, I1, ⟨_, rfl⟩, ⟨rfl, c, ec, rfl⟩, st', fun b hb => (hf b hb).1⟩⟩
  done := by
    intro X hP hw hK hc i pins s σ H E I hf st hg
    subst hP hw hK
    obtain ⟨f0, f1, f2, f3, f4, f5⟩ := hf it (by simp)
    have hi : i = x.cps.size := hg
    subst hi
    exact (W X.A (I.ok.hd hc)).done s _ _ st fun h' tk kk => ⟨rfl, I.turned (fun b o hb e => kk b o (by simpa using hb) e) f0 f1 f3 f4 f5⟩
  self := hself
noncomputable def iStr (tl : TE) : TI := fun σ H R => tl σ H fun v H1 => ∃ x, v = .str x ∧ R (Its x) H1
theorem pi_str {tg l : Expr} {tl : TE} (hl : PE X l tl) : PI X tg l (iStr tl) := by
  intro pins s σ H R I h
  refine thn (hl pins s σ H _ I h) fun v s1 ⟨y, H1, I1, r1, q1⟩ => ?_
  obtain ⟨x, e, q⟩ := q1
  subst e
  obtain ⟨t, rfl⟩ := r1
  have fin : ∀ (o : Obj) (ty : String), (s1.heap.push o).IsStrIter s1.heap.objs.size ty x t 0 → Turn X.prog X.w X.K tg (Its x) [s1.heap.objs.size] s1.heap.objs.size (fun i h => h.IsStrIter s1.heap.objs.size ty x t i) →
      PIE X pins σ tg R (.ref s1.heap.objs.size) { s1 with heap := s1.heap.push o } := fun o ty st T => by
    refine ⟨s1.heap.objs.size, [s1.heap.objs.size], _, _, H1, rfl, I1.kept (t' := s1.toks) fun b o e => Heap.get?_push_of_some _ e, T, st, fun b hb => ?_, q⟩
    have e : b = s1.heap.objs.size := by simpa using hb
    subst e
    exact I1.fpOk (Nat.le_refl _) (I1.hok.fresh (Nat.le_refl _))
  cases ha : x.cps.all (· < 128)
  · exact wpAny_pyIter_wide ha (fin _ "str_iterator" ⟨_, Heap.get?_push_size _ rfl, rfl, rfl⟩ (turn_str _ _ x t (fun A' hA => Walks.strWide hA _ x t) (by decide) fun _ _ _ _ _ st h => wpAny_pyIter_striter_wide st h))
  · exact wpAny_pyIter_ascii ha (fin _ "str_ascii_iterator" ⟨_, Heap.get?_push_size _ rfl, rfl, rfl⟩ (turn_str _ _ x t (fun A' hA => Walks.strAscii hA _ x t) (by decide) fun _ _ _ _ _ st h => wpAny_pyIter_striter_ascii st h))
/-- over a text, sign by sign -/
theorem for_str {x : Str} {g : TG} {tb : TS} {D : Ends} {σ : St} {H : Hp} (Pv : Nat → St → Hp → Prop) (h0 : Pv 0 σ H)
    (hs : ∀ i c σ H, x.cps[i]? = some c → Pv i σ H → g (.str ⟨#[c]⟩) σ H fun σ2 H2 => tb { D with nx := Pv (i + 1), ct := Pv (i + 1), bk := D.nx } σ2 H2) (hd : ∀ σ H, Pv x.cps.size σ H → D.nx σ H) :
    ∃ W : Nat → Nat → St → Hp → Prop, (∃ m, W 0 m σ H) ∧ ∀ i m σ H, W i m σ H →
      ((Its x).stop i H ∧ D.nx σ H) ∨ ((Its x).go i H ∧ ∃ N : St → Hp → Prop, (∀ σ' H', N σ' H' → ∃ m', m' < m ∧ W (i + 1) m' σ' H') ∧ ∀ v H', (Its x).yld i H v H' → g v σ H' fun σ2 H2 => tb { D with nx := N, ct := N, bk := D.nx } σ2 H2) := by
  refine ⟨fun i m σ H => m = x.cps.size - i ∧ i ≤ x.cps.size ∧ Pv i σ H, ⟨x.cps.size, by simp, Nat.zero_le _, h0⟩, ?_⟩
  rintro i m σ H ⟨rfl, hi, p⟩
  by_cases hlt : i < x.cps.size
  · refine .inr ⟨hlt, Pv (i + 1), fun σ' H' p' => ⟨x.cps.size - (i + 1), by omega, rfl, hlt, p'⟩, fun v H' y => ?_⟩
    obtain ⟨e, c, ec, ev⟩ := y
    subst e ev
    exact hs i c σ _ ec p
  · have e : i = x.cps.size := by omega
    subst e
    exact .inl ⟨rfl, hd σ H p⟩

/-- x[lo:hi] of a text -/
noncomputable def rSlS : V → Option Int → Option Int → Hp → VK → Prop := fun v lo hi H Q => ∃ x, v = .str x ∧ x.length ≤ sizeLine ∧ Q (.str (Txt.slice x lo hi)) H
theorem sl_str : SlR X rSlS := by
  intro pins s σ H v vv vl vu lo hi sl Q I rx hs pl pu h
  obtain ⟨x, rfl, hz, q⟩ := h
  obtain ⟨t, rfl⟩ := rx
  refine ⟨"str", _, F.slot_str_getitem.lookup, typeIs_str _ _ _, ?_⟩
  have fin : ∀ (l u : Option (Int × Tok)), s.heap.IsSlice sl l u none → l.map (·.1) = lo → u.map (·.1) = hi → wpAny (model X.prog X.w) X.A (getItem (.str x t) (.ref sl)) (EP X pins σ Q) X.xe s := fun l u hsl el eu => by
    refine wpAny_getItem_str_slice (l := l) (u := u) (st := none) hsl rfl ?_
    subst el eu
    exact post_val_or_str ⟨Nat.le_trans (Txt.slice_le x _ _) hz, fun t' k => ⟨.str (Txt.slice x (l.map (·.1)) (u.map (·.1))), H, I.tok _, ⟨t', rfl⟩, q⟩⟩
  cases pl with
  | none =>
    cases pu with
    | none => exact fin none none hs rfl rfl
    | int j uj => exact fin none (some (j, uj)) hs rfl rfl
  | int i ui =>
    cases pu with
    | none => exact fin (some (i, ui)) none hs rfl rfl
    | int j uj => exact fin (some (i, ui)) (some (j, uj)) hs rfl rfl

/-- sep.join(a list of texts) -/
theorem strsAre_of {ys : List Str} : ∀ {us : List Value}, Vals (ys.map V.str) us → StrsAre us ys := by
  induction ys with
  | nil => intro us r; rw [List.map_nil] at r; cases r; exact .nil
  | cons n ns ih =>
    intro us r
    rw [List.map_cons] at r
    cases r with
    | cons h t =>
      obtain ⟨tk, rfl⟩ := h
      exact .cons n tk (ih t)
noncomputable def rJoin (K : PySem.W.Frag) : V → List V → Hp → VK → Prop := fun x vs H Q => ∃ sep p ys, x = .str sep ∧ vs = [.ref p] ∧ SqL K H p (ys.map V.str) ∧ (ys.map (·.length)).sum + ys.length * sep.length ≤ 16777216 ∧ Q (.str (Txt.join sep ys)) H
theorem mt_join : MtM X "str.join" (rJoin X.K) := by
  intro pins s σ H x xs v us Q I rx rs h
  obtain ⟨sep, p, ys, rfl, rfl, hl, hok, q⟩ := h
  obtain ⟨t, rfl⟩ := rx
  obtain ⟨u, rfl, ru⟩ := vals1 rs
  cases ru
  obtain ⟨its, r', pl, hz⟩ := I.list hl
  exact join_list pl.isList (strsAre_of r') hok fun t' k => ⟨.str (Txt.join sep ys), H, I.tok _, ⟨_, rfl⟩, q⟩
end

/-! ### comprehensions -/
theorem forIn_collect {α β : Type} {l : List α} {f : α → β → Sem (ForInStep β)} (g : β → α → β) (c : β) (h : ∀ x ∈ l, ∀ c, f x c = pure (.yield (g c x))) :
    forIn l c f = pure (l.foldl g c) := by
  induction l generalizing c with
  | nil => rfl
  | cons x l ih =>
    rw [List.forIn_cons, h x List.mem_cons_self, pure_bind]
    exact ih _ fun y hy => h y (List.mem_cons_of_mem _ hy)
noncomputable def clOf (cells : List (Str × Addr)) (names : List (Str × NameKind)) (acc : List (Str × Addr)) : List (Str × Addr) :=
  names.foldl (fun cs y => if y.2 == .free then (y.1, (cells.lookup y.1).getD 0) :: cs else cs) acc
theorem closure_eq {scope : Scope} {env : Env} (h : ∀ y ∈ scope.names, y.2 = .free → ∃ c, env.cells.lookup y.1 = some c) : closureFor scope env = pure (clOf env.cells scope.names []) := by
  simp only [closureFor]
  rw [forIn_collect (fun cs y => if y.2 == .free then (y.1, (env.cells.lookup y.1).getD 0) :: cs else cs) [] fun x hx c => ?_]
  · rfl
  · obtain ⟨n, k⟩ := x
    by_cases hk : k = .free
    · subst hk
      obtain ⟨a, ea⟩ := h (n, .free) hx rfl
      have ea' : env.cells.lookup n = some a := ea
      simp only [beq_self_eq_true, if_true, cellOf, ea', pure_bind, Option.getD_some]
    · have hb : (k == NameKind.free) = false := by simpa using hk
      simp only [hb, Bool.false_eq_true, if_false]
theorem lookup_mem {α : Type} : ∀ {l : List (Str × α)} {x : Str} {c : α}, l.lookup x = some c → (x, c) ∈ l
  | [], _, _, h => by simp at h
  | (y, d) :: r, x, c, h => by
    rw [List.lookup_cons] at h
    cases hx : x == y with
    | true =>
      rw [hx] at h
      have e : x = y := by simpa using hx
      subst e
      cases h
      exact List.mem_cons_self
    | false =>
      rw [hx] at h
      exact List.mem_cons_of_mem _ (lookup_mem h)
theorem mem_lookup {α : Type} : ∀ {l : List (Str × α)} {x : Str} {c : α}, (x, c) ∈ l → ∃ d, l.lookup x = some d
  | [], _, _, h => by cases h
  | (y, d) :: r, x, c, h => by
    rw [List.lookup_cons]
    cases hx : x == y with
    | true => exact ⟨d, rfl⟩
    | false =>
      rcases List.mem_cons.mp h with e | h
      · cases e; simp at hx
      · exact mem_lookup h
theorem clOf_mem {cells : List (Str × Addr)} : ∀ {names : List (Str × NameKind)} {acc : List (Str × Addr)} {p : Str × Addr}, p ∈ clOf cells names acc ↔ p ∈ acc ∨ ((p.1, NameKind.free) ∈ names ∧ p.2 = (cells.lookup p.1).getD 0)
  | [], acc, p => by simp [clOf]
  | (n, k) :: r, acc, p => by
    show p ∈ clOf cells r (if k == .free then (n, (cells.lookup n).getD 0) :: acc else acc) ↔ _
    rw [clOf_mem (names := r)]
    by_cases hk : k = .free
    · subst hk
      simp only [beq_self_eq_true, if_true, List.mem_cons]
      constructor
      · rintro ((rfl | h) | h)
        · exact .inr ⟨.inl rfl, rfl⟩
        · exact .inl h
        · exact .inr ⟨.inr h.1, h.2⟩
      · rintro (h | ⟨h | h, e⟩)
        · exact .inl (.inr h)
        · obtain ⟨a, b⟩ := p
          cases h
          exact .inl (.inl (by rw [show b = _ from e]))
        · exact .inr ⟨h, e⟩
    · have hb : (k == NameKind.free) = false := by simpa using hk
      simp only [hb, Bool.false_eq_true, if_false, List.mem_cons]
      constructor
      · rintro (h | h)
        · exact .inl h
        · exact .inr ⟨.inr h.1, h.2⟩
      · rintro (h | ⟨h | h, e⟩)
        · exact .inl h
        · cases h; exact absurd rfl hk
        · exact .inr ⟨h, e⟩
theorem relabel_mem {scope : Scope} {env : Env} {x : Str} {k : NameKind} (h : (relabel scope env).names.lookup x = some k) : ∃ k', (x, k') ∈ scope.names ∧ (k' = k ∨ (k' = .free ∧ k = .cell)) := by
  have m := lookup_mem h
  unfold relabel at m
  obtain ⟨⟨n, k'⟩, hm, e⟩ := List.mem_map.mp m
  dsimp only at e
  split at e
  · rename_i hc
    rw [Bool.and_eq_true, Bool.and_eq_true] at hc
    have e1 : n = x := congrArg Prod.fst e
    have e2 : NameKind.cell = k := congrArg Prod.snd e
    subst e1 e2
    exact ⟨k', hm, .inr ⟨by simpa using hc.1.1, rfl⟩⟩
  · have e1 : n = x := congrArg Prod.fst e
    have e2 : k' = k := congrArg Prod.snd e
    subst e1 e2
    exact ⟨k', hm, .inl rfl⟩

/-- the context of a comprehension's block -/
noncomputable def subCx (X : Cx) (scope : Scope) (N : List Str) (cl : List (Str × Addr)) (C : Addr) (s : Shared) (H : Hp) (fp : List Addr) (xe : Value → Shared → Prop) : Cx :=
  { X with N := N, s₀ := s, H₀ := H, env := compEnvC scope cl C X.env, outer := X.stack, stack := X.stack, ex := fp, fn := fun _ => false, pn := [], xe := xe }
/-- which names of the block are the def's (and where they stand there) -/
inductive Caps (X : Cx) (scope : Scope) : List Str → List (Option Nat) → Prop where
  | nil : Caps X scope [] []
  | own {x : Str} {N : List Str} {ix : List (Option Nat)} (r : Caps X scope N ix) : Caps X scope (x :: N) (none :: ix)
  | cap {x : Str} {j : Nat} {N : List Str} {ix : List (Option Nat)} (h1 : X.N[j]? = some x) (h2 : X.env.kindOf x = some .cell) (h3 : (relabel scope X.env).names.lookup x = some .cell) (r : Caps X scope N ix) : Caps X scope (x :: N) (some j :: ix)
noncomputable def capS (ix : List (Option Nat)) (σ : St) : St := ix.map fun o => match o with
  | none => none
  | some j => (σ[j]?).getD none
theorem Caps.get {X : Cx} {scope : Scope} {σ : St} : ∀ {N : List Str} {ix : List (Option Nat)}, Caps X scope N ix → ∀ (i : Nat) (x : Str) (v : V), N[i]? = some x → (capS ix σ)[i]? = some (some v) →
    ∃ j : Nat, X.N[j]? = some x ∧ σ[j]? = some (some v) ∧ X.env.kindOf x = some .cell ∧ (relabel scope X.env).names.lookup x = some .cell
  | _, _, .nil, i, x, v, h, _ => by simp at h
  | _, _, .own r, 0, x, v, _, h => by simp [capS] at h
  | _, _, .own r, i + 1, x, v, h1, h2 => r.get i x v (by simpa using h1) (by simpa [capS] using h2)
  | _, _, .cap (j := j) e1 e2 e3 r, 0, x, v, h1, h2 => by
    simp at h1
    subst h1
    refine ⟨j, e1, ?_, e2, e3⟩
    simp only [capS, List.map_cons, List.getElem?_cons_zero, Option.some.injEq] at h2
    cases q : σ[j]? with
    | none => rw [q] at h2; cases h2
    | some o => rw [q] at h2; simp only [Option.getD_some] at h2; rw [h2]
  | _, _, .cap e1 e2 e3 r, i + 1, x, v, h1, h2 => r.get i x v (by simpa using h1) (by simpa [capS] using h2)
theorem Caps.length {X : Cx} {scope : Scope} {N : List Str} {ix : List (Option Nat)} (h : Caps X scope N ix) : ix.length = N.length := by
  induction h with
  | nil => rfl
  | own _ ih => simp [ih]
  | cap _ _ _ _ ih => simp [ih]
/-- a store that knows at least as much -/
noncomputable def Ext (a b : St) : Prop := b.length = a.length ∧ ∀ (i : Nat) v, a[i]? = some (some v) → b[i]? = some (some v)
theorem Ext.set {a : St} {i : Nat} {v : V} (h : a[i]? = some none) : Ext a (a.set i (some v)) := by
  refine ⟨by simp, fun j w e => ?_⟩
  by_cases hj : j = i
  · subst hj; rw [h] at e; cases e
  · rw [List.getElem?_set_ne (Ne.symm hj)]; exact e
/-- the tests of a comprehension -/
noncomputable def PTs (X : Cx) (ifs : List Expr) (t : TT) : Prop :=
  ∀ (pins : List (Addr × Obj)) (s : Shared) (σ : St) (H : Hp) (Q : Bool → Hp → Prop), Inv X pins σ H s → t σ H Q →
    wpAny (model X.prog X.w) X.A (forIn ifs true fun c r => if r = true then do let ok ← isTrue c X.env (eval c X.env); pure (ForInStep.yield ok) else pure (ForInStep.yield r)) (TP X pins σ Q) X.xe s
noncomputable def ttNil : TT := fun _ H Q => Q true H
theorem pts_nil {X : Cx} : PTs X [] ttNil := fun pins s σ H Q I h => wpAny_tests_nil ⟨H, I, h⟩
theorem pts_one {X : Cx} {c : Expr} {t : TT} (h : PT X c t) : PTs X [c] t := fun pins s σ H Q I q => wpAny_tests_one (h pins s σ H Q I q)

/-- the turns of a comprehension: W is what holds between two of them -/
noncomputable def CompW (J : It) (g : TG) (tt : TT) (te : TE) (σ0 : St) (D : Addr) (Q : VK) (H1 : Hp) : Prop := ∃ W : Nat → Nat → List V → Hp → Prop, (∃ m, W 0 m [] (upd H1 D (.lst []))) ∧ ∀ i m ys H, W i m ys H →
  (J.stop i H ∧ Q (.ref D) H) ∨ (J.go i H ∧ ∀ x H', J.yld i H x H' → g x σ0 H' fun σ2 H2 => Ext σ0 σ2 ∧ tt σ2 H2 fun b H3 =>
    if b = true then te σ2 H3 fun v H4 => H4 D = some (.lst ys) ∧ ys.length < sizeLine ∧ ∃ m', m' < m ∧ W (i + 1) m' (ys ++ [v]) (upd H4 D (.lst (ys ++ [v]))) else ∃ m', m' < m ∧ W (i + 1) m' ys H3)
noncomputable def tComp (wi : TI) (g : TG) (tt : TT) (te : TE) (ix : List (Option Nat)) : TE := fun σ H Q => wi σ H fun J H1 => ∀ D, H1 D = none → CompW J g tt te (capS ix σ) D Q H1

section
variable {prog : Program} {w : World} {A : Around} {R : Result → Shared → Prop} {s : Shared}
theorem comp_loop {elt target iter : Expr} {ifs : List Expr} {scope : Scope} {pos : Pos} {it acc : Value} {env : Env} (I : Nat → Shared → Prop)
    (turn : ∀ n s, I n s → wpAny (model prog w) A (pyNext it) (fun r s₁ => match r with
      | none => R (.ok .next) s₁
      | some v => wpAny (model prog w) A (letOwnedTupleGo target it v) (fun _ s₁' => wpAny (model prog w) A (assign target env v) (fun _ s₂ =>
          wpAny (model prog w) A (forIn ifs true fun c r => if r = true then do let ok ← isTrue c env (eval c env); pure (ForInStep.yield ok) else pure (ForInStep.yield r)) (fun ok s₃ =>
            if ok = true then wpAny (model prog w) A (eval elt env) (fun x s₄ =>
              wpAny (model prog w) A (call (.builtin "list.append") [acc, x]) (fun _ s₅ => ∃ m, m < n ∧ I m s₅) (notedBy (model prog w) A env fun e s' => R (.error e) s') s₄) (notedBy (model prog w) A env fun e s' => R (.error e) s') s₃
            else ∃ m, m < n ∧ I m s₃) (notedBy (model prog w) A env fun e s' => R (.error e) s') s₂) (notedBy (model prog w) A env fun e s' => R (.error e) s') s₁') (notedBy (model prog w) A env fun e s' => R (.error e) s') s₁) (notedBy (model prog w) A env fun e s' => R (.error e) s') s)
    (n : Nat) (h : I n s) : codeAny (model prog w) A (.compLoop (.ListComp elt [⟨target, iter, ifs, 0⟩] scope pos) 0 it acc env) R s := by
  refine codeAny_loop rfl I (fun n s hI => ?_) n h
  show wpAny _ A ((compTurn (.ListComp elt [⟨target, iter, ifs, 0⟩] scope pos) 0 it acc env).onRaise (fun x => do noteFrame x env; theTreesLotGoes x)) _ _ s
  refine wpAny_noted ?_
  rw [compTurn_list]
  refine wpAny_bind (wpAny_standAt (wpAny_bind (wpAny_mono (turn n s hI) (fun r s₁ h₁ => ?_) fun _ _ h' => h')))
  cases r with
  | none => exact wpAny_pure h₁
  | some v =>
    refine wpAny_bind (wpAny_mono h₁ (fun _ s₁' h₁' => ?_) fun _ _ h' => h')
    refine wpAny_bind (wpAny_mono h₁' (fun _ s₂ h₂ => wpAny_bind (wpAny_mono h₂ (fun ok s₃ h₃ => ?_) fun _ _ h' => h')) fun _ _ h' => h')
    cases ok with
    | false => exact wpAny_pure ⟨rfl, h₃⟩
    | true =>
      exact wpAny_bind (wpAny_bind (wpAny_mono h₃ (fun x s₄ h₄ => wpAny_bind (wpAny_mono h₄ (fun _ s₅ h₅ => wpAny_pure (wpAny_pure ⟨rfl, h₅⟩)) fun _ _ h' => h')) fun _ _ h' => h'))
end

section
variable {X : Cx}
noncomputable def noCell (sc : Scope) : Bool := sc.names.all fun y => y.2 != .cell
noncomputable def freeOk (sc : Scope) (env : Env) : Bool := sc.names.all fun y => y.2 != .free || env.kindOf y.1 == some .cell
noncomputable def namesOk (sc : Scope) : Bool := sc.names.all fun y => y.2 != .local || sc.names.lookup y.1 == some .local
/-- what is known of the block's own namespace behind the block -/
structure BlockEnd (X : Cx) (pins : List (Addr × Obj)) (σ : St) (H : Hp) (C : Addr) (s : Shared) : Prop where
  inv : Inv X pins σ H s
  ns : ∃ m, s.heap.Ns C m
  free : H C = none
  loc : C ≠ X.env.locals
  young : X.s₀.heap.objs.size ≤ C
  cell : ∀ x c, X.env.cells.lookup x = some c → c ≠ C
  pin : ∀ p ∈ X.pn ++ pins, p.1 ≠ C
theorem BlockEnd.gone {pins : List (Addr × Obj)} {σ : St} {H : Hp} {C : Addr} {s : Shared} (B : BlockEnd X pins σ H C s) {h' : Heap} (hs : Heap.SameBut C s.heap h') : Inv X pins σ H { s with heap := h' } :=
  B.inv.turned (t' := s.toks) (it := C) (fun b o hb e => hs.extBut b o hb e) B.free B.loc (.inr B.young) B.cell B.pin
theorem comp_core {elt tg iter : Expr} {ifs : List Expr} {scope : Scope} {pos pos' : Pos} {N : List Str} {ix : List (Option Nat)} {wi : TI} {g : TG} {tt : TT} {te : TE} {use : Option (Value → Sem Unit)} {Qv : Value → Shared → Prop}
    (hc : X.calm = true) (hi : PI X tg iter wi) (hk : scope.kind = .function) (hcell0 : noCell scope = true) (hfree0 : freeOk scope X.env = true) (hnames0 : namesOk scope = true) (caps : Caps X scope N ix)
    (hg : ∀ cl C s H fp xe, PG (subCx X scope N cl C s H fp xe) tg g) (ht : ∀ cl C s H fp xe, PTs (subCx X scope N cl C s H fp xe) ifs tt) (he : ∀ cl C s H fp xe, PE (subCx X scope N cl C s H fp xe) elt te)
    (hs : ∀ x, foldedSetIterable iter X.env x = pure x)
    {pins : List (Addr × Obj)} {s : Shared} {σ : St} {H : Hp} {Q : VK} (I : Inv X pins σ H s) (h : tComp wi g tt te ix σ H Q)
    (fin : ∀ (C D : Addr) (H6 : Hp) (s6 : Shared), BlockEnd X pins σ H6 C s6 → Q (.ref D) H6 → compPost (model X.prog X.w) X.A X.xe use Qv (.ref D) C (.ok .next) s6) :
    wpAny (model X.prog X.w) X.A (comprehension (.ListComp elt [⟨tg, iter, ifs, 0⟩] scope pos) scope X.env pos' (newList []) false (eval iter X.env) use) Qv X.xe s := by
  have hcell : ∀ y ∈ scope.names, y.2 ≠ .cell := fun y hy e => by
    have := List.all_eq_true.mp hcell0 y hy
    rw [e] at this; exact absurd this (by decide)
  have hfree : ∀ y ∈ scope.names, y.2 = .free → X.env.kindOf y.1 = some .cell := fun y hy e => by
    have := List.all_eq_true.mp hfree0 y hy
    rw [e] at this; simpa using this
  have hnames : ∀ y ∈ scope.names, y.2 = .local → scope.names.lookup y.1 = some .local := fun y hy e => by
    have := List.all_eq_true.mp hnames0 y hy
    rw [e] at this; simpa using this
  have hcl : ∀ y ∈ scope.names, y.2 = .free → ∃ c, X.env.cells.lookup y.1 = some c := fun y hy e => I.ok.has y.1 (.inl (hfree y hy e))
  refine wpAny_comprehension_free (use := use) rfl hs (closure_eq hcl) hk hnames ?_
  generalize ecl : clOf X.env.cells scope.names [] = cl
  -- the cells of the block are the def's
  have cl1 : ∀ x c, cl.lookup x = some c → X.env.cells.lookup x = some c := fun x c e => by
    have m := lookup_mem e
    rw [← ecl] at m
    rcases clOf_mem.mp m with z | ⟨z, z'⟩
    · cases z
    · obtain ⟨a, ea⟩ := hcl _ z rfl
      have ea' : X.env.cells.lookup x = some a := ea
      have z2 : c = (X.env.cells.lookup x).getD 0 := z'
      rw [ea', Option.getD_some] at z2
      rw [ea', z2]
  have cl2 : ∀ x, (x, NameKind.free) ∈ scope.names → ∃ c, cl.lookup x = some c := fun x hx => by
    have m : (x, (X.env.cells.lookup x).getD 0) ∈ cl := by rw [← ecl]; exact clOf_mem.mpr (.inr ⟨hx, rfl⟩)
    exact mem_lookup m
  refine thn (hi pins s σ H _ I h) fun v s1 h1 => thn h1 fun itv s2 h2 => ?_
  obtain ⟨it, fp, tn, J, H2, e, I2, T, st2, f2, body⟩ := h2
  subst e
  refine wpAny_newObj_type (wpAny_newFunctionEnv hcell (by intro y hy; simp at hy) (fun h₁ hns₁ hsb₁ => ?_) hk)
  dsimp only at hns₁ hsb₁ ⊢
  have hD : H2 s2.heap.objs.size = none := I2.hok.fresh (Nat.le_refl _)
  obtain ⟨W, ⟨m0, w0⟩, turn⟩ := body _ hD
  have I3 : Inv X pins σ (upd H2 s2.heap.objs.size (.lst [])) { s2 with heap := s2.heap.push { cls := .type "list", dict := none, data := .seq ([] : List Value).toArray } } :=
    I2.laid (t' := s2.toks) (fun b o e => Heap.get?_push_of_some _ e) (Nat.le_refl _) ⟨Nat.zero_le _, [], 0, .nil, Heap.get?_push_size _ rfl⟩
  generalize hs3 : ({ s2 with heap := s2.heap.push { cls := .type "list", dict := none, data := .seq ([] : List Value).toArray } } : Shared) = s3 at I3
  have es3 : s2.heap.push { cls := .type "list", dict := none, data := .seq ([] : List Value).toArray } = s3.heap := by rw [← hs3]
  rw [es3] at hns₁ hsb₁ ⊢
  generalize hD' : s2.heap.objs.size = D at *
  generalize hH3 : upd H2 D (.lst []) = H3 at *
  have szC : s3.heap.objs.size = D + 1 := by rw [← es3, Heap.size_push, hD']
  -- what was, is
  have old : ∀ b o, s3.heap.get? b = some o → h₁.get? b = some o := fun b o e => hsb₁.extBut b o (Nat.ne_of_lt (Heap.lt_size e)) (Heap.get?_push_of_some _ e)
  have fpl : ∀ b ∈ fp, b < D := fun b hb => by
    obtain ⟨o, e, _⟩ := T.obj 0 _ st2 b hb
    rw [← hD']; exact Heap.lt_size e
  have fpD : ∀ b ∈ fp, H3 b = none := fun b hb => by
    rw [← hH3, upd_ne (Nat.ne_of_lt (fpl b hb))]; exact (f2 b hb).1
  have fstk : ∀ b ∈ fp, b ∉ frs X.stack := fun b hb z => by
    obtain ⟨_, f1, f3, _⟩ := f2 b hb
    rcases List.mem_cons.mp (I2.stkSub b z) with e | e
    · exact f1 e
    · exact f3 e
  let E' : Value → Shared → Prop := notedBy (model X.prog X.w) X.A (compEnvC scope cl s3.heap.objs.size X.env) fun e s' => compPost (model X.prog X.w) X.A X.xe use Qv (.ref D) s3.heap.objs.size (.error e) s'
  have ok' : (subCx X scope N cl s3.heap.objs.size s3 H3 fp E').Ok := by
    refine { mod := I.ok.mod, kind := ?_, glob := I.ok.glob, blt := I.ok.blt, above := Nat.le_refl _, inj := ?_, has := ?_, cab := ?_, hd := I.ok.hd, frames := I.ok.frames, stk := .inl rfl, exf := ?_, bs := I3.bs, bsz := ?_, noex := ?_, exfs := fstk, funs := I3.stack, frf := I3.stkFree }
    · show (relabel scope X.env).kind = .function
      exact hk
    · exact fun x y c e1 e2 => I.ok.inj x y c (cl1 x c e1) (cl1 y c e2)
    · intro x hx
      have hx' : (relabel scope X.env).names.lookup x = some .cell ∨ (relabel scope X.env).names.lookup x = some .free := hx
      have : (x, NameKind.free) ∈ scope.names := by
        rcases hx' with e | e
        · obtain ⟨k', hm, z | ⟨z, _⟩⟩ := relabel_mem e
          · subst z; exact absurd rfl (hcell _ hm)
          · subst z; exact hm
        · obtain ⟨k', hm, z | ⟨z, z'⟩⟩ := relabel_mem e
          · subst z; exact hm
          · cases z'
      exact cl2 x this
    · intro x c z; cases z
    · intro b hb
      refine ⟨fun z => ?_, fun x c e => (f2 b hb).2.2.2.2.1 x c (cl1 x c e)⟩
      have lt := fpl b hb
      have z' : b = s3.heap.objs.size := z
      rw [z', szC] at lt
      exact absurd lt (Nat.not_lt.mpr (Nat.le_succ D))
    · exact Nat.le_trans I3.ok.bsz I3.sz
    · intro b o e hb
      rcases (f2 b hb).2.2.2.1 with z | z
      · exact I.ok.noex b o e z
      · exact absurd (Nat.lt_of_lt_of_le (Heap.lt_size e) (Nat.le_trans I.ok.bsz z)) (Nat.lt_irrefl _)
  have I4 : ∀ tk, Inv (subCx X scope N cl s3.heap.objs.size s3 H3 fp E') [] (capS ix σ) H3 { s3 with heap := h₁, toks := tk } := fun tk => by
    refine ⟨ok', rfl, I3.bare, Un.kept old, ⟨_, hns₁, fun i x v e1 e2 e3 => ?_⟩, fun x c e => ?_, ?_, fun x c e => I3.freeC x c (cl1 x c e), fun p hp => (by cases hp), I3.hok.kept old, ?_⟩
    · obtain ⟨j, j1, j2, j3, j4⟩ := caps.get i x v e1 e2
      obtain ⟨m, hn, hl⟩ := I3.loc
      obtain ⟨u, r, l⟩ := hl j x v j1 j2 (.inr (.inl j3))
      refine ⟨u, r, .inr ⟨.inl j4, ?_⟩⟩
      rcases l with ⟨l, _⟩ | ⟨_, c, ec, hcell⟩
      · have l' : X.env.kindOf x = some .local := l
        rw [j3] at l'; cases l'
      · obtain ⟨k', hm, z | ⟨z, _⟩⟩ := relabel_mem j4
        · subst z; exact absurd rfl (‹∀ y ∈ scope.names, y.2 ≠ .cell› _ hm)
        · subst z
          obtain ⟨c', ec'⟩ := cl2 x hm
          have := cl1 x c' ec'
          rw [ec] at this; cases this
          obtain ⟨o, ho, hd⟩ := hcell
          exact ⟨c, ec', o, old _ _ ho, hd⟩
    · obtain ⟨v, o, ho, hd⟩ := I3.cell x c (cl1 x c e)
      exact ⟨v, o, old _ _ ho, hd⟩
    · exact I3.hok.fresh (Nat.le_refl _)
    · show (capS ix σ).length = N.length
      rw [← caps.length]; simp [capS]
  have st4 : tn 0 h₁ := T.keep 0 _ _ st2 fun b hb o e => old b o (by rw [← es3]; exact Heap.get?_push_of_some _ e)
  -- the block's end
  have fin6 : ∀ (s6 : Shared) (H6 : Hp), Inv (subCx X scope N cl s3.heap.objs.size s3 H3 fp E') [] (capS ix σ) H6 s6 → Q (.ref D) H6 →
      compPost (model X.prog X.w) X.A X.xe use Qv (.ref D) s3.heap.objs.size (.ok .next) s6 := fun s6 H6 I6 q => by
    obtain ⟨m, hn, _⟩ := I6.loc
    refine fin s3.heap.objs.size D H6 s6 ⟨I3.call' (s' := s6) (ch := fp) I6.os I6.base I6.hok I6.bare ?_, ⟨m, hn⟩, I6.free, ?_, I3.sz, ?_, ?_⟩ q
    · intro b hb
      obtain ⟨_, f1, _, f3, f4, f5⟩ := f2 b hb
      exact ⟨f3, f1, f4, f5⟩
    · exact Nat.ne_of_gt I3.lt
    · intro x c e z
      obtain ⟨v, o, ho, _⟩ := I3.cell x c e
      exact absurd (Heap.lt_size ho) (by rw [z]; exact Nat.lt_irrefl _)
    · intro p hp z
      exact absurd (Heap.lt_size (I3.pin p hp).1) (by rw [z]; exact Nat.lt_irrefl _)
  -- the loop
  have loop : ∀ s4 : Shared, s4 = { s3 with heap := h₁, toks := s2.toks + ([] : List (Str × Value)).length } →
      codeAny (model X.prog X.w) X.A (.compLoop (.ListComp elt [⟨tg, iter, ifs, 0⟩] scope pos) 0 (.ref it) (.ref D) (compEnvC scope cl s3.heap.objs.size X.env)) (compPost (model X.prog X.w) X.A X.xe use Qv (.ref D) s3.heap.objs.size) s4 := by
    rintro s4 rfl
    refine comp_loop (fun n s' => ∃ i ys H', Inv (subCx X scope N cl s3.heap.objs.size s3 H3 fp E') [] (capS ix σ) H' s' ∧ tn i s'.heap ∧ (∀ b ∈ fp, H' b = none) ∧ W i n ys H') ?_ m0 ⟨0, [], H3, I4 _, st4, fpD, w0⟩
    rintro n s5 ⟨i, ys, H5, I5, st5, fr5, w5⟩
    have stat : ∀ {H' : Hp}, (∀ b ∈ fp, H' b = none) → ∀ b ∈ fp, FpOk (subCx X scope N cl s3.heap.objs.size s3 H3 fp E') [] H' b := fun hn b hb => by
      refine ⟨hn b hb, fun z => ?_, fstk b hb, .inl hb, fun x c e => (f2 b hb).2.2.2.2.1 x c (cl1 x c e), fun p hp => (by cases hp)⟩
      have lt := fpl b hb
      have z' : b = s3.heap.objs.size := z
      rw [z', szC] at lt
      exact absurd lt (Nat.not_lt.mpr (Nat.le_succ D))
    rcases turn i n ys H5 w5 with ⟨stop, q⟩ | ⟨go, step⟩
    · refine thn (T.done (subCx X scope N cl s3.heap.objs.size s3 H3 fp E') rfl rfl rfl hc i [] s5 _ H5 E' I5 (stat fr5) st5 stop) fun r s6 ⟨hr, I6⟩ => ?_
      subst hr
      exact fin6 s6 H5 I6 q
    · refine thn (T.item (subCx X scope N cl s3.heap.objs.size s3 H3 fp E') rfl rfl rfl hc i [] s5 _ H5 E' I5 (stat fr5) st5 go) fun r s6 ⟨u, hr, h6⟩ => ?_
      subst hr
      refine thn h6 fun _ s7 ⟨x, H7, I7, r7, y7, st7, fr7⟩ => ?_
      have I7' := I7.pinned (stat fr7) (T.obj _ _ st7)
      refine thn (hg cl s3.heap.objs.size s3 H3 fp E' _ s7 _ H7 x u _ I7' r7 (step x H7 y7)) fun _ s8 ⟨σ8, H8, I8, ext, q8⟩ => ?_
      have again : ∀ {σ9 : St} {H9 : Hp} {s9 : Shared} {m' : Nat} {zs : List V}, Ext (capS ix σ) σ9 → Inv (subCx X scope N cl s3.heap.objs.size s3 H3 fp E') ([] ++ pinsAt fp s7.heap) σ9 H9 s9 → m' < n → W (i + 1) m' zs H9 →
          ∃ m, m < n ∧ ∃ i ys H', Inv (subCx X scope N cl s3.heap.objs.size s3 H3 fp E') [] (capS ix σ) H' s9 ∧ tn i s9.heap ∧ (∀ b ∈ fp, H' b = none) ∧ W i m ys H' := fun {σ9 H9 s9 m' zs} ex I9 hm w9 => by
        refine ⟨m', hm, i + 1, zs, H9, (I9.unpinned).weak ex.1.symm ex.2, T.keep _ _ _ st7 fun b hb o e => (I9.pin (b, o) (List.mem_append_right _ (List.mem_append_right _ (mem_pinsAt hb e)))).1, fun b hb => ?_, w9⟩
        obtain ⟨o, e, d⟩ := T.obj _ _ st7 b hb
        exact (I9.pin (b, o) (List.mem_append_right _ (List.mem_append_right _ (mem_pinsAt hb e)))).2.1
      refine thn (ht cl s3.heap.objs.size s3 H3 fp E' _ s8 σ8 H8 _ I8 q8) fun ok s9 ⟨H9, I9, q9⟩ => ?_
      cases ok with
      | false =>
        obtain ⟨m', hm, w9⟩ := q9
        exact again ext I9 hm w9
      | true =>
        refine thn (he cl s3.heap.objs.size s3 H3 fp E' _ s9 σ8 H9 _ I9 q9) fun u10 s10 ⟨v10, H10, I10, r10, hDl, hlt, m', hm, w10⟩ => ?_
        refine thn (mt_append (X := subCx X scope N cl s3.heap.objs.size s3 H3 fp E') _ s10 σ8 H10 (.ref D) [v10] (.ref D) [u10] (fun _ H' => H' = upd H10 D (.lst (ys ++ [v10]))) I10 rfl (.cons r10 .nil) ⟨D, ys, v10, rfl, rfl, hDl, hlt, rfl⟩) fun _ s11 ⟨_, H11, I11, _, e11⟩ => ?_
        subst e11
        exact again ext I11 hm w10
  exact codeAny_compStart_list (loop _ (by rw [← hs3])) (T.self _ 0 _ _ _ st4 (loop _ (by rw [← hs3])))

/-- a comprehension as a value -/
theorem pe_comp {elt tg iter : Expr} {ifs : List Expr} {scope : Scope} {pos : Pos} {N : List Str} {ix : List (Option Nat)} {wi : TI} {g : TG} {tt : TT} {te : TE}
    (hc : X.calm = true) (hi : PI X tg iter wi) (hk : scope.kind = .function) (hcell0 : noCell scope = true) (hfree0 : freeOk scope X.env = true) (hnames0 : namesOk scope = true) (caps : Caps X scope N ix)
    (hg : ∀ cl C s H fp xe, PG (subCx X scope N cl C s H fp xe) tg g) (ht : ∀ cl C s H fp xe, PTs (subCx X scope N cl C s H fp xe) ifs tt) (he : ∀ cl C s H fp xe, PE (subCx X scope N cl C s H fp xe) elt te)
    (hs : ∀ x, foldedSetIterable iter X.env x = pure x := by intro _; rfl) :
    PE X (.ListComp elt [⟨tg, iter, ifs, 0⟩] scope pos) (tComp wi g tt te ix) := by
  intro pins s σ H Q I h
  rw [eval_ListComp]
  refine comp_core (use := none) hc hi hk hcell0 hfree0 hnames0 caps hg ht he hs I h fun C D H6 s6 B q => ?_
  obtain ⟨m, hn⟩ := B.ns
  exact ⟨m, hn, fun h' hsb => ⟨.ref D, H6, B.gone hsb, rfl, q⟩⟩
/-- y = [.. for ..] on one line: stored ahead of the block's end -/
noncomputable def tSetC (i : Nat) (te : TE) : TS := fun D σ H => te σ H fun x H1 => D.nx (σ.set i (some x)) H1
theorem ps_setComp {i : Nat} {y : Str} {py : Pos} {spos : Pos} {elt tg iter : Expr} {ifs : List Expr} {scope : Scope} {pos : Pos} {N : List Str} {ix : List (Option Nat)} {wi : TI} {g : TG} {tt : TT} {te : TE}
    (hN : X.N.Nodup) (hi' : X.N[i]? = some y) (hx : Loc X.env.scope y) (hsw : swapsWith (.ListComp elt [⟨tg, iter, ifs, 0⟩] scope pos) (some (.Name y py)) spos.line X.env = pure true)
    (hc : X.calm = true) (hi : PI X tg iter wi) (hk : scope.kind = .function) (hcell0 : noCell scope = true) (hfree0 : freeOk scope X.env = true) (hnames0 : namesOk scope = true) (caps : Caps X scope N ix)
    (hg : ∀ cl C s H fp xe, PG (subCx X scope N cl C s H fp xe) tg g) (ht : ∀ cl C s H fp xe, PTs (subCx X scope N cl C s H fp xe) ifs tt) (he : ∀ cl C s H fp xe, PE (subCx X scope N cl C s H fp xe) elt te)
    (hs : ∀ x, foldedSetIterable iter X.env x = pure x := by intro _; rfl) (hf : X.fn y = true ∨ X.env.scope.names.lookup y = some .local := by first | exact .inl rfl | exact .inr rfl | assumption) :
    PS X (.Assign [.Name y py] (.ListComp elt [⟨tg, iter, ifs, 0⟩] scope pos) spos) (tSetC i (tComp wi g tt te ix)) := by
  intro pins s σ H D I h
  rw [exec_Assign_Name_used _ _ _ _ hsw]
  refine wpAny_bind (wpAny_standAt (wpAny_bind ?_))
  show wpAny _ X.A (do let _ ← comprehension (.ListComp elt [⟨tg, iter, ifs, 0⟩] scope pos) scope X.env _ (newList []) false (eval iter X.env) (some (assign (.Name y py) X.env))) _ _ s
  refine wpAny_bind (wpAny_mono (comp_core (use := some (assign (.Name y py) X.env)) (Qv := fun _ s' => SP X pins D .next s') hc hi hk hcell0 hfree0 hnames0 caps hg ht he hs I h fun C a H6 s6 B q => ?_) (fun _ s' hq => wpAny_pure (wpAny_pure hq)) fun _ _ e => e)
  obtain ⟨m, hn⟩ := B.ns
  show wpAny _ X.A (assign (.Name y py) X.env (.ref a)) _ _ s6
  refine wpAny_assign_Name (store_ok2 B.inv hN hi' hx (v := .ref a) rfl (fun s7 I7 ⟨z, hz, hz'⟩ => ?_) hf)
  have hzC : C ≠ z := by
    rcases hz' with e | e
    · rw [e]; exact B.loc
    · exact fun w => B.cell y z e w.symm
  refine ⟨m, hn.sameBut hz hzC, fun h' hsb => ?_⟩
  have B7 : BlockEnd X pins (σ.set i (some (.ref a))) H6 C s7 := ⟨I7, ⟨m, hn.sameBut hz hzC⟩, B.free, B.loc, B.young, B.cell, B.pin⟩
  exact ⟨_, H6, B7.gone hsb, q⟩

/-- over a list that stays, every element a value that needs nothing new -/
theorem comp_list {K : PySem.W.Frag} {a : Addr} {xs : List V} {g : TG} {tt : TT} {te : TE} {σ0 : St} {H : Hp} {D : Addr} {Q : VK} (f : V → V) (hz : xs.length ≤ sizeLine) (hx : SqL K H a xs) (hD : H D = none)
    (hs : ∀ (i : Nat) (x : V) (H' : Hp) (R : VK) (R0 : Hp → Prop), xs[i]? = some x → (∀ b, b ≠ D → H' b = H b) → R (f x) H' → g x σ0 H' fun σ2 H2 => Ext σ0 σ2 ∧ tt σ2 H2 fun b H3 => if b = true then te σ2 H3 R else R0 H3)
    (hq : Q (.ref D) (upd H D (.lst (xs.map f)))) :
    CompW (Itl K a) g tt te σ0 D Q H := by
  have stays : ∀ ys : List V, SqL K (upd H D (.lst ys)) a xs := fun ys => by
    have sm : Same H (upd H D (.lst ys)) := fun b u q => by rw [upd_ne (ne_of_none q hD)]; exact q
    exact sm.seq hx
  refine ⟨fun i m ys H' => m = xs.length - i ∧ i ≤ xs.length ∧ ys = (xs.take i).map f ∧ H' = upd H D (.lst ys), ⟨xs.length, by simp, Nat.zero_le _, by simp, rfl⟩, ?_⟩
  rintro i m ys H' ⟨rfl, hi, rfl, rfl⟩
  by_cases hlt : i < xs.length
  · refine .inr ⟨⟨xs, xs[i], stays _, by simp [hlt]⟩, fun x H'' y => ?_⟩
    obtain ⟨e, y⟩ := y
    subst e
    have ex := y xs (stays _)
    refine hs i x _ _ _ ex (fun b hb => upd_ne hb) ⟨upd_same, by simp; omega, xs.length - (i + 1), by omega, rfl, hlt, ?_, ?_⟩
    · rw [List.take_add_one, ex, List.map_append]; rfl
    · rw [upd_upd]
  · have e : i = xs.length := by omega
    subst e
    refine .inl ⟨⟨xs, stays _, Nat.le_refl _⟩, ?_⟩
    rw [List.take_length]
    exact hq
end
end L2

set_option Elab.async false
set_option linter.all false
set_option maxRecDepth 100000
set_option maxHeartbeats 4000000
/-! Own rules over the layer: exceptions of own classes, raised, passed on, caught. -/
namespace L2
open PySem PySem.Spec PyProof.Rows
section
variable {P : Program} {w : World} {H : Hp} {h h' : Heap} {a : Addr} {o : HO}
theorem ObjOk.there (x : ObjOk P w H h a o) : ∃ u, h.get? a = some u := by
  cases o with
  | lst xs => obtain ⟨_, _, _, _, e⟩ := x; exact ⟨_, e⟩
  | tup xs => obtain ⟨_, _, _, _, e, _⟩ := x; exact ⟨_, e⟩
  | dK kvs => obtain ⟨_, _, _, _, _, _, _, e, _⟩ := x; exact ⟨_, e⟩
  | dT kvs => obtain ⟨_, _, _, _, _, _, _, e, _⟩ := x; exact ⟨_, e⟩
  | set S n => obtain ⟨_, _, _, _, e, _⟩ := x; exact ⟨_, e⟩
  | ins C dx fs => obtain ⟨_, _, _, e, _⟩ := x; exact ⟨_, e⟩
  | own y => obtain ⟨_, e⟩ := x; exact ⟨_, e⟩
  | xd fs => obtain ⟨_, ⟨_, _, _, e, _⟩, _⟩ := x; exact ⟨_, e⟩
  | rng lo hi => obtain ⟨_, _, _, e⟩ := x; exact ⟨_, e⟩
  | frz ob u => obtain ⟨e, _⟩ := x; exact ⟨_, e⟩
  | tbl ps => exact ⟨_, show h.get? a = some _ from x⟩
  | met f y => exact ⟨_, show h.get? a = some _ from x⟩
  | ext φ => obtain ⟨_, e, _⟩ := x; exact e
theorem HOk.none (x : HOk P w H h) (e : h.get? a = Option.none) : H a = Option.none := by
  cases q : H a with
  | none => rfl
  | some u =>
    obtain ⟨v, z⟩ := (x a u q).there
    rw [e] at z; cases z
theorem HOk.part (x : HOk P w H h) (k : ∀ b o, H b ≠ Option.none → h.get? b = some o → h'.get? b = some o) : HOk P w H h' := fun b u e => by
  refine (x b u e).stay (fun c v hc q => k c v ?_ q) (fun _ q => q) fun _ _ q => q
  intro z
  rcases hc with rfl | hc
  · rw [z] at e; cases e
  · rw [z] at hc; cases hc
end

/-- an exception of class cls at e, its trace at T -/
noncomputable def Tr (h : Heap) (e T : Addr) (cls : Value) : Prop := ∃ oe vs oT ts a0, h.get? e = some oe ∧ oe.cls = cls ∧ vs[0]? = some a0 ∧ oe.data = .fields vs ∧ vs[1]? = some (.ref T) ∧ T ≠ e ∧ h.get? T = some oT ∧ oT.data = .fields ts ∧ ts[3]? = some Value.none
theorem rebase {h base base' : Heap} : ∀ {l : List Env}, h.FunFrames base l → (∀ b ∈ frs l, base'.get? b = none) → h.FunFrames base' l
  | [], _, _ => trivial
  | env :: r, ⟨hk, ⟨L, o, hf, _, ho, hd⟩, hr⟩, hb => by
    have hL : L ∈ frs (env :: r) := by unfold frs; rw [List.filterMap_cons, hf]; exact List.mem_cons_self
    refine ⟨hk, ⟨L, o, hf, hb L hL, ho, hd⟩, rebase hr fun b z => hb b ?_⟩
    unfold frs at z ⊢
    rw [List.filterMap_cons, hf]
    exact List.mem_cons_of_mem _ z
/-- what an exception that goes by leaves as it was -/
structure Kept (l : List Env) (ch : List Addr) (h h' : Heap) : Prop where
  keep : ∀ b o, b ∉ frs l → b ∉ ch → h.get? b = some o → h'.get? b = some o
  slot : ∀ b o, b ∈ frs l → h.get? b = some o → ∃ sl, h'.get? b = some { o with slots := sl }
section
variable {M : Model} {A : Around} {E : Value → Shared → Prop} {s : Shared} {Q : Unit → Shared → Prop} {base : Heap} {env : Env} {outer l : List Env} {L e T : Addr} {cls : Value}
theorem notf (hl : s.heap.FunFrames base l) {b : Addr} {o : Obj} (hb : b ∈ frs l) (q : s.heap.get? b = some o) : ∀ vs, o.data ≠ .fields vs := by
  obtain ⟨_, o', ho, hd⟩ := hl.mem hb
  rw [q] at ho; cases ho; exact hd
/-- the trace behind: where it may lie -/
theorem trace_new {h h' : Heap} {ch : List Addr} (hl : h.FunFrames base l) {T' : Addr} {oT : Obj} {ts : Array Value} (hn : (PySem.W.hideAll h (frs l ++ ch)).get? T' = none) (hT : h'.get? T' = some oT) (hd : oT.data = .fields ts)
    (up : ∀ b o, h.get? b = some o → (∀ vs, o.data ≠ .fields vs) → ∃ sl, h'.get? b = some { o with slots := sl }) : T' ∈ ch ∨ h.get? T' = none := by
  cases q : h.get? T' with
  | none => exact .inr rfl
  | some o =>
    refine .inl ?_
    by_cases hm : T' ∈ frs l ++ ch
    · rcases List.mem_append.mp hm with z | z
      · obtain ⟨_, o', ho, hdo⟩ := hl.mem z
        obtain ⟨sl, e⟩ := up _ _ ho hdo
        rw [hT] at e; cases e
        exact absurd hd (hdo ts)
      · exact z
    · rw [PySem.W.hideAll_get _ q hm] at hn; cases hn
theorem leave_tr (hfr : A.frames = some (env :: outer)) (hl : s.heap.FunFrames base (env :: outer)) (hf : env.frame = some L) (tr : Tr s.heap e T cls)
    (hQ : ∀ h' T', Tr h' e T' cls → (T' = T ∨ s.heap.get? T' = none) → Kept (env :: outer) [e, T] s.heap h' → Q () { s with heap := h' }) : wpAny M A (leaving env (.ref e)) Q E s := by
  obtain ⟨oe, vs, oT, ts, a0, he, hc, h0, hd, h1, hTe, hT, hdT, h3⟩ := tr
  have hid : ∀ b, b ∈ frs (env :: outer) ++ [e, T] → (PySem.W.hideAll s.heap (frs (env :: outer) ++ [e, T])).get? b = none := fun b hb => PySem.W.hideAll_none _ hb
  refine wpAny_leaving_nextW (base := PySem.W.hideAll s.heap (frs (env :: outer) ++ [e, T])) (a0 := a0) (cls := cls) hfr (rebase hl fun b hb => hid b (List.mem_append_left _ hb)) hf
    ⟨oe, vs, T, oT, ts, he, ⟨hc, h0⟩, hd, h1, hid T (by simp), hTe, hT, hdT, h3⟩ (fun b o q => PySem.W.of_hideAll _ q) (hid e (by simp)) fun h' hL => ?_
  obtain ⟨k1, k2, ⟨oe', vs', T', oT', ts', he', ⟨hc', h0'⟩, hd', h1', hn', hTe', hT', hdT', h3'⟩, k4⟩ := hL
  refine hQ h' T' ⟨oe', vs', oT', ts', a0, he', hc', h0', hd', h1', hTe', hT', hdT', h3'⟩ ?_ ⟨fun b o hb hch q => k1 b o (PySem.W.hideAll_get _ q fun z => ?_), fun b o hb q => k4 b o q (notf hl hb q)⟩
  · rcases trace_new hl hn' hT' hdT' k4 with z | z
    · rcases List.mem_cons.mp z with z | z
      · exact absurd z hTe'
      · exact .inl (by simpa using z)
    · exact .inr z
  · rcases List.mem_append.mp z with z | z
    · exact hb z
    · exact hch z
theorem leave_new1 {oe : Obj} {vs : Array Value} {a0 : Value} (hfr : A.frames = some (env :: outer)) (hl : s.heap.FunFrames base (env :: outer)) (hf : env.frame = some L) (he : s.heap.get? e = some oe) (hc : oe.cls = cls) (hd : oe.data = .fields vs) (h0 : vs[0]? = some a0) (h1 : vs[1]? = some .none)
    (hQ : ∀ h' T', Tr h' e T' cls → s.heap.get? T' = none → Kept (env :: outer) [e] s.heap h' → Q () { s with heap := h' }) : wpAny M A (leaving env (.ref e)) Q E s := by
  have hid : ∀ b, b ∈ frs (env :: outer) ++ [e] → (PySem.W.hideAll s.heap (frs (env :: outer) ++ [e])).get? b = none := fun b hb => PySem.W.hideAll_none _ hb
  refine wpAny_leaving_firstW (base := PySem.W.hideAll s.heap (frs (env :: outer) ++ [e])) (a0 := a0) hfr (rebase hl fun b hb => hid b (List.mem_append_left _ hb)) hf he (fun b o q => PySem.W.of_hideAll _ q) (hid e (by simp)) hd h1 h0 fun h' hL => ?_
  obtain ⟨k1, k2, ⟨oe', vs', T', oT', ts', he', ⟨hc', h0'⟩, hd', h1', hn', hTe', hT', hdT', h3'⟩, k4⟩ := hL
  refine hQ h' T' ⟨oe', vs', oT', ts', a0, he', hc'.trans hc, h0', hd', h1', hTe', hT', hdT', h3'⟩ ?_ ⟨fun b o hb hch q => k1 b o (PySem.W.hideAll_get _ q fun z => ?_), fun b o hb q => k4 b o q (notf hl hb q)⟩
  · rcases trace_new hl hn' hT' hdT' k4 with z | z
    · exact absurd (by simpa using z) hTe'
    · exact z
  · rcases List.mem_append.mp z with z | z
    · exact hb z
    · exact hch z
/-- a try looks at it: noted, then laid down -/
theorem look_tr (hfr : A.frames = some (env :: outer)) (hl : s.heap.FunFrames base (env :: outer)) (hf : env.frame = some L) (tr : Tr s.heap e T cls)
    (hQ : ∀ h' T', Tr h' e T' cls → (T' = T ∨ s.heap.get? T' = none) → Kept (env :: outer) [e, T] s.heap h' → Q () { s with heap := h' }) :
    wpAny M A (noteFrame (.ref e) env) (fun _ s2 => wpAny M A (setFlight (.ref e) none) Q E s2) E s := by
  obtain ⟨oe, vs, oT, ts, a0, he, hc, h0, hd, h1, hTe, hT, hdT, h3⟩ := tr
  have hid : ∀ b, b ∈ frs (env :: outer) ++ [e, T] → (PySem.W.hideAll s.heap (frs (env :: outer) ++ [e, T])).get? b = none := fun b hb => PySem.W.hideAll_none _ hb
  refine wpAny_looks_onW (base := PySem.W.hideAll s.heap (frs (env :: outer) ++ [e, T])) (a0 := a0) (cls := cls) hfr hf
    ⟨fun b o q => PySem.W.of_hideAll _ q, hid e (by simp), rebase hl fun b hb => hid b (List.mem_append_left _ hb), oe, vs, T, oT, ts, he, ⟨hc, h0⟩, hd, h1, hid T (by simp), hTe, hT, hdT, h3⟩ fun h1' held up1 => ?_
  refine wpAny_landsW held fun h' fl up2 => ?_
  have up := Heap.UpToSlots.trans up1 up2
  obtain ⟨k1, _, k2, oe', vs', T', oT', ts', he', ⟨hc', h0'⟩, hd', h1', hn', hTe', hT', hdT', h3'⟩ := fl
  refine hQ h' T' ⟨oe', vs', oT', ts', a0, he', hc', h0', hd', h1', hTe', hT', hdT', h3'⟩ ?_ ⟨fun b o hb hch q => k1 b o (PySem.W.hideAll_get _ q fun z => ?_), fun b o hb q => up b o q (notf hl hb q)⟩
  · rcases trace_new hl hn' hT' hdT' up with z | z
    · rcases List.mem_cons.mp z with z | z
      · exact absurd z hTe'
      · exact .inl (by simpa using z)
    · exact .inr z
  · rcases List.mem_append.mp z with z | z
    · exact hb z
    · exact hch z
/-- laid down once more -/
theorem again_tr (hl : s.heap.FunFrames base l) (tr : Tr s.heap e T cls)
    (hQ : ∀ h' T', Tr h' e T' cls → (T' = T ∨ s.heap.get? T' = none) → Kept l [e, T] s.heap h' → Q () { s with heap := h' }) : wpAny M A (setFlight (.ref e) none) Q E s := by
  obtain ⟨oe, vs, oT, ts, a0, he, hc, h0, hd, h1, hTe, hT, hdT, h3⟩ := tr
  have hid : ∀ b, b ∈ frs l ++ [e, T] → (PySem.W.hideAll s.heap (frs l ++ [e, T])).get? b = none := fun b hb => PySem.W.hideAll_none _ hb
  refine lands_againW (base := PySem.W.hideAll s.heap (frs l ++ [e, T])) (l := l) (a0 := a0) (cls := cls)
    ⟨fun b o q => PySem.W.of_hideAll _ q, hid e (by simp), rebase hl fun b hb => hid b (List.mem_append_left _ hb), oe, vs, T, oT, ts, he, ⟨hc, h0⟩, hd, h1, hid T (by simp), hTe, hT, hdT, h3⟩ fun h' fl up => ?_
  obtain ⟨k1, _, k2, oe', vs', T', oT', ts', he', ⟨hc', h0'⟩, hd', h1', hn', hTe', hT', hdT', h3'⟩ := fl
  refine hQ h' T' ⟨oe', vs', oT', ts', a0, he', hc', h0', hd', h1', hTe', hT', hdT', h3'⟩ ?_ ⟨fun b o hb hch q => k1 b o (PySem.W.hideAll_get _ q fun z => ?_), fun b o hb q => up b o q (notf hl hb q)⟩
  · rcases trace_new hl hn' hT' hdT' up with z | z
    · rcases List.mem_cons.mp z with z | z
      · exact absurd z hTe'
      · exact .inl (by simpa using z)
    · exact .inr z
  · rcases List.mem_append.mp z with z | z
    · exact hb z
    · exact hch z
end

/-! ### the state while an exception goes by -/
section
variable {X : Cx} {pins : List (Addr × Obj)} {σ : St} {H : Hp} {s : Shared} {h' : Heap} {ch : List Addr}
/-- what may change is ours: not of the entry, no pin, no cell, not tracked -/
structure Ours (X : Cx) (pins : List (Addr × Obj)) (H : Hp) (b : Addr) : Prop where
  new : X.s₀.heap.get? b = none
  free : H b = none
  loc : b ≠ X.env.locals
  cell : ∀ x c, X.env.cells.lookup x = some c → c ≠ b
  pin : ∀ p ∈ X.pn ++ pins, p.1 ≠ b
theorem Inv.ours (I : Inv X pins σ H s) (hx : X.ex = []) {b : Addr} (n : s.heap.get? b = none) : X.s₀.heap.get? b = none ∧ b ≠ X.env.locals ∧ (∀ x c, X.env.cells.lookup x = some c → c ≠ b) ∧ ∀ p ∈ X.pn ++ pins, p.1 ≠ b := by
  refine ⟨?_, ?_, fun x c e z => ?_, fun p hp z => ?_⟩
  · cases q : X.s₀.heap.get? b with
    | none => rfl
    | some o =>
      obtain ⟨o', e⟩ := I.base.there b o q (by rw [hx]; simp)
      rw [n] at e; cases e
  · rintro rfl
    obtain ⟨m, ⟨o, _, _, e, _⟩, _⟩ := I.loc
    rw [n] at e; cases e
  · subst z
    obtain ⟨v, o, e', _⟩ := I.cell x c e
    rw [n] at e'; cases e'
  · have := (I.pin p hp).1
    rw [z, n] at this; cases this
theorem Inv.exc (I : Inv X pins σ H s) (hx : X.ex = []) (ours : ∀ b ∈ ch, Ours X pins H b) (k : Kept X.stack ch s.heap h') : Inv X pins σ H { s with heap := h' } := by
  have sub := I.stkSub
  have above := I.ok.above
  have outs : ∀ b ∈ X.fs, b ∈ frs X.stack := fun b hb => by
    rcases I.ok.stk with e | ⟨e, hf⟩
    · rw [e]; exact hb
    · rw [e]
      show b ∈ frs (X.env :: X.outer)
      unfold frs
      rw [List.filterMap_cons, hf]
      exact List.mem_cons_of_mem _ hb
  have anyk : ∀ b o, b ∉ ch → s.heap.get? b = some o → ∃ sl, h'.get? b = some { o with slots := sl } := fun b o hc q => by
    by_cases hb : b ∈ frs X.stack
    · exact k.slot b o hb q
    · exact ⟨o.slots, k.keep b o hb hc q⟩
  have nch : ∀ b o, X.s₀.heap.get? b = some o → b ∉ ch := fun b o q z => by rw [(ours b z).new] at q; cases q
  have lch : X.env.locals ∉ ch := fun z => (ours _ z).loc rfl
  have cch : ∀ x c, X.env.cells.lookup x = some c → c ∉ ch := fun x c e z => (ours _ z).cell x c e rfl
  have cellK : ∀ x c v, X.env.cells.lookup x = some c → s.heap.IsCell c v → h'.IsCell c v := fun x c v e z => by
    obtain ⟨o, ho, hd⟩ := z
    obtain ⟨sl, q⟩ := anyk c o (cch x c e) ho
    exact ⟨_, q, hd⟩
  refine ⟨I.ok, I.os, I.bare, ⟨fun b o e n hb hxx => ?_, fun b o e n hb hxx => ?_, I.base.free, fun b o e hxx => ?_, I.base.tups, I.base.frzs, I.base.tbls⟩, ?_, fun x c e => ?_, I.free, I.freeC, fun p hp => ?_, ?_, I.len⟩
  · refine k.keep b o (fun z => ?_) (nch b o e) (I.base.keep b o e n hb hxx)
    rcases List.mem_cons.mp (sub b z) with z | z
    · exact absurd (Nat.lt_of_lt_of_le (Heap.lt_size e) above) (by rw [z]; exact Nat.lt_irrefl _)
    · exact hb z
  · obtain ⟨sl, e1⟩ := I.base.slot b o e n hb hxx
    obtain ⟨sl', e2⟩ := k.slot b _ (outs b hb) e1
    exact ⟨sl', e2⟩
  · obtain ⟨o', e1⟩ := I.base.there b o e hxx
    obtain ⟨sl, e2⟩ := anyk b o' (nch b o e) e1
    exact ⟨_, e2⟩
  · obtain ⟨m, ⟨o, es, ep, ho, r⟩, hl⟩ := I.loc
    obtain ⟨sl, q⟩ := anyk _ o lch ho
    refine ⟨m, ⟨_, es, ep, q, r⟩, fun i x v e1 e2 e3 => ?_⟩
    obtain ⟨u, ru, lk⟩ := hl i x v e1 e2 e3
    refine ⟨u, ru, ?_⟩
    rcases lk with z | ⟨z, c, e, ic⟩
    · exact .inl z
    · exact .inr ⟨z, c, e, cellK x c _ e ic⟩
  · obtain ⟨v, z⟩ := I.cell x c e
    exact ⟨v, cellK x c v e z⟩
  · obtain ⟨e, n, ne, nf, d⟩ := I.pin p hp
    refine ⟨k.keep p.1 p.2 (fun z => ?_) (fun z => (ours _ z).pin p hp rfl) e, n, ne, nf, d⟩
    rcases List.mem_cons.mp (sub _ z) with z | z
    · exact ne z
    · exact nf z
  · refine I.hok.part fun b o hb q => k.keep b o (fun z => hb (I.stkFree b z)) (fun z => hb (ours b z).free) q
/-- an object that is ours is tracked from now on -/
theorem Inv.track {e : Addr} {φ : Heap → Prop} (I : Inv X pins σ H s) (o : Ours X pins H e) (new : ObjOk X.prog X.w (upd H e (.ext φ)) s.heap e (.ext φ)) : Inv X pins σ (upd H e (.ext φ)) s := by
  have ne : ∀ b u, H b = some u → b ≠ e := fun b u q z => by rw [z, o.free] at q; cases q
  refine ⟨I.ok, I.os, I.bare, ⟨I.base.keep, I.base.slot, fun b ob q n hx => ?_, I.base.there, fun b xs q => ?_, fun b ob u q => ?_, fun b ps q => ?_⟩, I.loc, I.cell, ?_, fun x c q => ?_, fun p hp => ?_, fun b u q => ?_, I.len⟩
  · rw [upd_ne (fun z => by rw [z, o.new] at q; cases q)]; exact I.base.free b ob q n hx
  · have := I.base.tups b xs q
    rw [upd_ne (ne _ _ this)]; exact this
  · have := I.base.frzs b ob u q
    rw [upd_ne (ne _ _ this)]; exact this
  · obtain ⟨m, z⟩ := I.base.tbls b ps q
    exact ⟨m, by rw [upd_ne (ne _ _ z)]; exact z⟩
  · rw [upd_ne (Ne.symm o.loc)]; exact I.free
  · rw [upd_ne (o.cell x c q)]; exact I.freeC x c q
  · obtain ⟨z, n, r⟩ := I.pin p hp
    exact ⟨z, by rw [upd_ne (o.pin p hp)]; exact n, r⟩
  · by_cases z : b = e
    · subst z; rw [upd_same] at q; cases q; exact new
    · rw [upd_ne z] at q
      exact (I.hok b u q).stay (fun _ _ _ x => x) (fun c x => by rw [upd_ne (ne _ _ x)]; exact x) fun c xs x => by rw [upd_ne (ne _ _ x)]; exact x
end

/-! ### how an exception lies behind a call -/
noncomputable def CX1 (P : Program) (w : World) : CXT := fun outer H s E e s' => ∃ (ea T : Addr) (cls : Value) (H' : Hp), e = .ref ea ∧ s.heap.get? ea = none ∧ s.heap.get? T = none ∧ H' ea = none ∧ H' T = none ∧ Tr s'.heap ea T cls ∧
  s'.os = s.os ∧ AllBare s'.gens ∧ Un (frs outer) [] H H' s.heap s'.heap ∧ HOk P w H' s'.heap ∧ E cls none H'
theorem passN {P : Program} {w : World} {X : Cx} : Passes (CX1 P w) X E0 := fun _ _ _ _ _ _ _ ⟨_, _, _, _, _, _, _, _, _, _, _, _, _, _, q⟩ => q.elim
/-- a context in which an exception that E lets by may rise -/
structure Thr (X : Cx) (E : XK) : Prop where
  made : ∀ {pins : List (Addr × Obj)} {σ : St} {H : Hp} {s : Shared} {e : Addr} {cls : Value} {vs : List Value} {h' : Heap}, Inv X pins σ H s → Heap.MadeExcOf s.heap h' e cls vs → E cls none H → X.xe (.ref e) { s with heap := h' }
  pass : Passes (CX1 X.prog X.w) X E
section
variable {P : Program} {w : World} {K : PySem.W.Frag} {mg : Str → Option Value} {base : Heap} {N : List Str} {qual : Str} {scope : Scope} {f : Addr} {cd : Value} {A : Around} {outer : List Env} {s : Shared} {H : Hp} {E : XK}
/-- a def's body: an exception leaves its frame -/
theorem lies_def {pins : List (Addr × Obj)} {σ : St} {H2 : Hp} {s2 : Shared} {ea T : Addr} {cls : Value} (I : Inv (cxOf (CX1 P w) P w K mg base N qual scope f cd A outer s H E) pins σ H2 s2) (tr : Tr s2.heap ea T cls)
    (n1 : s.heap.get? ea = none) (n2 : s.heap.get? T = none) (f1 : H2 ea = none) (f2 : H2 T = none) (q : E cls none H2) : (cxOf (CX1 P w) P w K mg base N qual scope f cd A outer s H E).xe (.ref ea) s2 := by
  have fr : (A.deeper (envOfC qual scope s.heap.objs.size f cd)).frames = some (envOfC qual scope s.heap.objs.size f cd :: outer) := I.ok.frames
  have above : s.heap.objs.size ≤ (envOfC qual scope s.heap.objs.size f cd).locals := I.ok.above
  have nex : ∀ b : Addr, b ∉ (cxOf (CX1 P w) P w K mg base N qual scope f cd A outer s H E).ex := fun b z => absurd (show b ∈ ([] : List Addr) from z) (by simp)
  have sub : ∀ b ∈ frs (envOfC qual scope s.heap.objs.size f cd :: outer), b = (envOfC qual scope s.heap.objs.size f cd).locals ∨ b ∈ frs outer := fun b hb => List.mem_cons.mp (I.stkSub b hb)
  have out : ∀ b ∈ frs outer, b ∈ frs (envOfC qual scope s.heap.objs.size f cd :: outer) := fun b hb => by
    unfold frs at hb ⊢
    rw [List.filterMap_cons]
    split
    · exact hb
    · exact List.mem_cons_of_mem _ hb
  refine leave_tr fr I.stack rfl tr fun h' T' tr' hT' k => ?_
  have anyk : ∀ b o, b ≠ ea → b ≠ T → s2.heap.get? b = some o → ∃ sl, h'.get? b = some { o with slots := sl } := fun b o h1 h2 z => by
    by_cases hb : b ∈ frs (envOfC qual scope s.heap.objs.size f cd :: outer)
    · exact k.slot b o hb z
    · exact ⟨o.slots, k.keep b o hb (by simp [h1, h2]) z⟩
  have ne : ∀ b o, s.heap.get? b = some o → b ≠ ea ∧ b ≠ T := fun b o z => ⟨fun y => (by rw [y, n1] at z; cases z), fun y => (by rw [y, n2] at z; cases z)⟩
  refine ⟨ea, T', cls, H2, rfl, n1, ?_, f1, ?_, tr', I.os, I.bare, ⟨fun b o z n hb hx => ?_, fun b o z n hb hx => ?_, fun b o z n hx => I.base.free b o z n (nex b), fun b o z hx => ?_, I.base.tups, I.base.frzs, I.base.tbls⟩, ?_, q⟩
  · rcases hT' with z | z
    · rw [z]; exact n2
    · cases y : s.heap.get? T' with
      | none => rfl
      | some o =>
        obtain ⟨o', e'⟩ := I.base.there T' o y (nex _)
        rw [z] at e'; cases e'
  · rcases hT' with z | z
    · rw [z]; exact f2
    · exact I.hok.none z
  · refine k.keep b o (fun y => ?_) (by have := ne b o z; simp [this.1, this.2]) (I.base.keep b o z n hb (nex b))
    rcases sub b y with y | y
    · exact absurd (Nat.lt_of_lt_of_le (Heap.lt_size z) above) (by rw [y]; exact Nat.lt_irrefl _)
    · exact hb y
  · obtain ⟨sl, e1⟩ := I.base.slot b o z n hb (nex b)
    obtain ⟨sl', e2⟩ := k.slot b _ (out b hb) e1
    exact ⟨sl', e2⟩
  · obtain ⟨o', e1⟩ := I.base.there b o z (nex b)
    obtain ⟨sl, e2⟩ := anyk b o' (ne b o z).1 (ne b o z).2 e1
    exact ⟨_, e2⟩
  · refine I.hok.part fun b o hb z => k.keep b o (fun y => hb (I.stkFree b y)) (fun y => ?_) z
    rcases List.mem_cons.mp y with y | y
    · exact hb (by rw [y]; exact f1)
    · exact hb (by rw [show b = T by simpa using y]; exact f2)
theorem thr_def : Thr (cxOf (CX1 P w) P w K mg base N qual scope f cd A outer s H E) E where
  made := fun {pins σ H1 s1 e cls vs h'} I m q => by
    obtain ⟨t, he, htn, ht⟩ := m.there
    have I2 : Inv (cxOf (CX1 P w) P w K mg base N qual scope f cd A outer s H E) pins σ H1 { s1 with heap := h' } := I.kept (t' := s1.toks) m.keeps
    have fr : (A.deeper (envOfC qual scope s.heap.objs.size f cd)).frames = some (envOfC qual scope s.heap.objs.size f cd :: outer) := I.ok.frames
    have above : s.heap.objs.size ≤ (envOfC qual scope s.heap.objs.size f cd).locals := I.ok.above
    have nex : ∀ b : Addr, b ∉ (cxOf (CX1 P w) P w K mg base N qual scope f cd A outer s H E).ex := fun b z => absurd (show b ∈ ([] : List Addr) from z) (by simp)
    have sub : ∀ b ∈ frs (envOfC qual scope s.heap.objs.size f cd :: outer), b = (envOfC qual scope s.heap.objs.size f cd).locals ∨ b ∈ frs outer := fun b hb => List.mem_cons.mp (I.stkSub b hb)
    have out : ∀ b ∈ frs outer, b ∈ frs (envOfC qual scope s.heap.objs.size f cd :: outer) := fun b hb => by
      unfold frs at hb ⊢
      rw [List.filterMap_cons]
      split
      · exact hb
      · exact List.mem_cons_of_mem _ hb
    have n1 : s.heap.get? e = none := (I.ours rfl m.new).1
    refine leave_new1 (cls := cls) fr I2.stack rfl he rfl rfl rfl rfl fun h2 T' tr' hT' k => ?_
    have anyk : ∀ b o, b ≠ e → h'.get? b = some o → ∃ sl, h2.get? b = some { o with slots := sl } := fun b o h1 z => by
      by_cases hb : b ∈ frs (envOfC qual scope s.heap.objs.size f cd :: outer)
      · exact k.slot b o hb z
      · exact ⟨o.slots, k.keep b o hb (by simp [h1]) z⟩
    have ne : ∀ b o, s.heap.get? b = some o → b ≠ e := fun b o z y => by rw [y, n1] at z; cases z
    refine ⟨e, T', cls, H1, rfl, n1, (I2.ours rfl hT').1, I.hok.none m.new, I2.hok.none hT', tr', I.os, I.bare, ⟨fun b o z n hb hx => ?_, fun b o z n hb hx => ?_, fun b o z n hx => I.base.free b o z n (nex b), fun b o z hx => ?_, I.base.tups, I.base.frzs, I.base.tbls⟩, ?_, q⟩
    · refine k.keep b o (fun y => ?_) (by simp [ne b o z]) (I2.base.keep b o z n hb (nex b))
      rcases sub b y with y | y
      · exact absurd (Nat.lt_of_lt_of_le (Heap.lt_size z) above) (by rw [y]; exact Nat.lt_irrefl _)
      · exact hb y
    · obtain ⟨sl, e1⟩ := I2.base.slot b o z n hb (nex b)
      obtain ⟨sl', e2⟩ := k.slot b _ (out b hb) e1
      exact ⟨sl', e2⟩
    · obtain ⟨o', e1⟩ := I2.base.there b o z (nex b)
      obtain ⟨sl, e2⟩ := anyk b o' (ne b o z) e1
      exact ⟨_, e2⟩
    · refine I2.hok.part fun b o hb z => k.keep b o (fun y => hb (I.stkFree b y)) (fun y => ?_) z
      exact hb (by rw [show b = e by simpa using y]; exact I.hok.none m.new)
  pass := fun pins σ H1 s1 e s2 I hcx => by
    obtain ⟨ea, T, cls, H2, rfl, n1, n2, f1, f2, tr, os, bare, un, hok, q⟩ := hcx
    have I2 := I.call' os un hok bare fun b z => absurd z (by simp)
    exact lies_def I2 tr (I.ours rfl n1).1 (I.ours rfl n2).1 f1 f2 q
end
section
variable {P : Program} {w : World} {K : PySem.W.Frag} {mg : Str → Option Value} {base : Heap}
/-- a def that raises nothing, where exceptions may lie -/
theorem FnOk.up {CX : CXT} {k : Nat} {f : Addr} {fd : FuncData} {ps : List Str} {sp : Sp} (F : FnOk P w K mg base CX0 k f fd ps sp) : FnOk P w K mg base CX k f fd ps sp :=
  ⟨F.len, fun A outer s H args us vs Q E hr he hb hv hs => codeAny_mono (F.run A outer s H args us vs Q E hr he hb hv hs) fun r s' q => by
    cases r with
    | error e => exact False.elim q
    | ok fl => cases fl <;> exact q⟩
/-- a def that may raise -/
theorem Fun.okE {x qual : Str} {st : Stmt} {f : Addr} {fd : FuncData} {N ps : List Str} {k : Nat} {sp : Sp} (F : Fun K x qual st f fd) (S : FnScope N ps (defScope st)) (len : ∀ vs H Q E, sp vs H Q E → vs.length = ps.length)
    (hbody : ∀ (cdv : Value) (A : Around) (outer : List Env) (s : Shared) (H : Hp) (vs : List V) (Q : VK) (E : XK), Room k (A.deeper (envOfC qual (defScope st) s.heap.objs.size f cdv)) → sp vs H Q E →
      ∃ t, PSs (cxOf (CX1 P w) P w K mg base N qual (defScope st) f cdv A outer s H E) (defBody st) t ∧ t { nx := fun _ H' => Q .non H', rt := Q } (start N vs) H) : FnOk P w K mg base (CX1 P w) (k + 1) f fd ps sp := by
  obtain ⟨oc, od, kV, doc, pm, an, cdv, ct, osl, rfl, lk, hcd⟩ := F.ex
  exact fn_of lk hcd S len fun A outer s H vs Q E hr hsp => hbody cdv A outer s H vs Q E hr hsp
end

/-! ### raise C(..), C an own class under ValueError without an __init__ of its own -/
noncomputable abbrev veB : List Value := [.type "ValueError", .type "Exception", .type "BaseException", .type "object"]
noncomputable abbrev excI (K : PySem.W.Frag) (C : Addr) : Prop := PySem.W.excIn K C veB "ValueError.__new__" = true
theorem excObj {K : PySem.W.Frag} {h : Heap} {C : Addr} (X : K.In h) (q : excI K C) : ∃ bm N nm qn bs hd sn sub ab col dd k0 k1 k2 k3 k5 mN,
    h.get? C = some (excClassObj nm qn C N bs bm hd sn sub ab col dd k0 k1 k2 k3 k5 "ValueError.__new__") ∧ h.Ns N mN ∧ mN "__init__" = none ∧ OwnTail h veB bm := by
  unfold excI PySem.W.excIn at q
  split at q
  · rename_i dd cd sl ho
    split at q
    · rename_i C' bm k0 k1 k2 k3 n k5 hm hs
      obtain ⟨q5, q6⟩ := Bool.and_eq_true_iff.mp q
      obtain ⟨q4, hok⟩ := Bool.and_eq_true_iff.mp q5
      obtain ⟨q3, ht⟩ := Bool.and_eq_true_iff.mp q4
      obtain ⟨q2, hdel⟩ := Bool.and_eq_true_iff.mp q3
      obtain ⟨e1, e2⟩ := Bool.and_eq_true_iff.mp q2
      have e1 := beq_iff_eq.mp e1
      have e2 := beq_iff_eq.mp e2
      have hni := beq_iff_eq.mp q6
      subst e1 e2
      obtain ⟨nm, bs, mro, ns, qn, hd, sn, sub, ab, col, del⟩ := cd
      have hsl : sl = #[k0, k1, k2, k3, some (.builtin "ValueError.__new__"), k5] := by
        rw [← hs]
      have hdel' : del = false := by simpa using hdel
      have hm' : mro = .ref C' :: bm := hm
      subst hm' hdel' hsl
      exact ⟨bm, ns, nm, qn, bs, hd, sn, sub, ab, col, dd, k0, k1, k2, k3, k5, _, X _ _ ho, .of_isNs (PySem.W.isNs_of_in X hok), PySem.W.nsMap_none_of_in X hok hni, PySem.W.tail_of_in X ht⟩
    · cases q
  · cases q
noncomputable def tRaise (E : XK) (C : Addr) (t : TA) : TS := fun _ σ H => t σ H fun vs H1 => vs.length ≤ sizeLine ∧ E (.ref C) none H1
theorem ps_raise {X : Cx} {E : XK} {C : Addr} {x : Str} {np cpos pos : Pos} {a : Expr} {ta : TA} (T : Thr X E) (O : excI X.K C) (hg : Gl X x) (hm : X.mg x = some (.ref C)) (ha : PA X [a] ta) (hc : X.calm = true := by rfl)
    (hs : starEach [a] X.env = [(false, eval a X.env)] := by rfl) (hd : (x == ("__debug__" : Str)) = false := by decide) : PS X (.Raise (some (.Call (.Name x np) [a] [] cpos)) none pos) (tRaise E C ta) := by
  intro pins s σ H D I h
  obtain ⟨bm, N, nm, qn, bs, hd', sn, sub, ab, col, dd, k0, k1, k2, k3, k5, mN, hC, hN, hni, TL⟩ := excObj I.ok.mod.kin O
  refine wpAny_Raise_call_subT (C := C) (nm := nm) (q := qn) (N := N) (bs := bs) (bm := bm) (hdct := hd') (sn := sn) (sub := sub) (ab := ab) (col := col) (dd := dd) (k0 := k0) (k1 := k1) (k2 := k2) (k3 := k3) (k5 := k5)
    PySem.F.excBase_ValueError (mN := mN) (TL.hasType PySem.F.excBase_ValueError.hasBase) (I.ok.hd hc) (by rw [hs]; rfl) hni (ld_glob I hg hm ⟨rfl, ?_⟩ hd)
  have p := ha cpos pins s σ H _ I h
  rw [hs] at p ⊢
  exact Calls.evalArgs_plain (thn p fun us s1 ⟨vs, H1, I1, r, q⟩ => ⟨rfl, by rw [← r.length]; exact q.1, I1.bk _ _ hC, hN.keeps I1.bk, TL.keeps I1.bk, fun h' e m => T.made I1 m q.2⟩)

/-! ### try: f(..), except C as n: .. -/
/-- within an except suite -/
noncomputable def Cx.inExc (X : Cx) (e : Addr) : Cx := { X with A := X.A.mark (some (.ref e)), calm := false, xe := fun _ _ => False }
section
variable {X : Cx} {pins : List (Addr × Obj)} {σ : St} {H : Hp} {s : Shared} {e : Addr}
theorem Inv.inExc (I : Inv X pins σ H s) (e : Addr) : Inv (X.inExc e) pins σ H s :=
  ⟨⟨I.ok.mod, I.ok.kind, I.ok.glob, I.ok.blt, I.ok.above, I.ok.inj, I.ok.has, I.ok.cab, fun z => (by cases z), I.ok.frames, I.ok.stk, I.ok.exf, I.ok.bs, I.ok.bsz, I.ok.noex, I.ok.exfs, I.ok.funs, I.ok.frf⟩, I.os, I.bare, I.base, I.loc, I.cell, I.free, I.freeC, I.pin, I.hok, I.len⟩
theorem Inv.outExc (ok : X.Ok) (I : Inv (X.inExc e) pins σ H s) : Inv X pins σ H s := ⟨ok, I.os, I.bare, I.base, I.loc, I.cell, I.free, I.freeC, I.pin, I.hok, I.len⟩
/-- a name is taken away -/
theorem Inv.unbind {i : Nat} {n : Str} {m : Str → Option Value} {v : Option Value} {h' : Heap} {t' : Nat} (I : Inv X pins σ H s) (hN : X.N.Nodup) (hi : X.N[i]? = some n)
    (hl : ∀ (i : Nat) (x : Str) (v : V), X.N[i]? = some x → σ[i]? = some (some v) → Vis X.env.scope x → ∃ u, RelV v u ∧ Look X.env s.heap m x u)
    (hn' : h'.Ns X.env.locals (fun x => if x = n then v else m x)) (hs : Heap.SameBut X.env.locals s.heap h') : Inv X pins (σ.set i none) H { s with heap := h', toks := t' } := by
  have lo : ∀ b o, X.s₀.heap.get? b = some o → b ≠ X.env.locals := fun b o e z => by
    exact absurd (Nat.lt_of_lt_of_le (Heap.lt_size e) I.ok.above) (by rw [z]; exact Nat.lt_irrefl _)
  have cne := I.cne
  refine ⟨I.ok, I.os, I.bare, ⟨fun b o e n hb hx => (hs.2 b (lo b o e)).trans (I.base.keep b o e n hb hx), fun b o e n hb hx => ?_, I.base.free, fun b o e hx => ?_, I.base.tups, I.base.frzs, I.base.tbls⟩,
    ⟨_, hn', fun j y v' e1 e2 e3 => ?_⟩, fun y c e => ?_, I.free, I.freeC, fun p hp => ?_, I.hok.part fun b o hb q => (hs.2 b fun z => hb (by rw [z]; exact I.free)).trans q, by simpa using I.len⟩
  · obtain ⟨sl, e1⟩ := I.base.slot b o e n hb hx
    exact ⟨sl, (hs.2 b (lo b o e)).trans e1⟩
  · obtain ⟨o', e1⟩ := I.base.there b o e hx
    exact ⟨o', (hs.2 b (lo b o e)).trans e1⟩
  · by_cases hj : j = i
    · subst hj
      by_cases hlt : j < σ.length
      · rw [List.getElem?_set_self hlt] at e2; cases e2
      · rw [List.getElem?_eq_none (by simpa using hlt)] at e2; cases e2
    · rw [List.getElem?_set_ne (Ne.symm hj)] at e2
      obtain ⟨u, r, q⟩ := hl j y v' e1 e2 e3
      have yn : y ≠ n := fun e => hj (nodup_ix hN e1 (e ▸ hi))
      refine ⟨u, r, ?_⟩
      rcases q with ⟨k, e⟩ | ⟨k, c, e, z⟩
      · exact .inl ⟨k, by simp [yn, e]⟩
      · exact .inr ⟨k, c, e, z.sameBut hs (cne y c e)⟩
  · obtain ⟨w', z⟩ := I.cell y c e
    exact ⟨w', z.sameBut hs (cne y c e)⟩
  · obtain ⟨e, n, ne, nf, d⟩ := I.pin p hp
    exact ⟨(hs.2 p.1 ne).trans e, n, ne, nf, d⟩
end
/-- an expression that is tried: what is wanted of its exceptions is free -/
noncomputable def PEx (X : Cx) (e : Expr) (t : XK → TE) : Prop := ∀ (E : XK) (σ : St) (pn' : List (Addr × Obj)) (xe' : Value → Shared → Prop),
  (∀ (pins : List (Addr × Obj)) (H : Hp) (s : Shared) (v : Value) (s' : Shared), Inv { X with pn := pn', xe := xe' } pins σ H s → CX1 X.prog X.w X.stack H s E v s' → xe' v s') →
  ∀ (pins : List (Addr × Obj)) (s : Shared) (H : Hp) (Q : VK), Inv { X with pn := pn', xe := xe' } pins σ H s → t E σ H Q → wpAny (model X.prog X.w) X.A (eval e X.env) (EP { X with pn := pn', xe := xe' } pins σ Q) xe' s
/-- the callee runs, at one store -/
theorem run_at {X : Cx} {CX : CXT} {k : Nat} {f : Addr} {fd : FuncData} {ps : List Str} {sp : Sp} {E : XK} {pins : List (Addr × Obj)} {σ : St} {H : Hp} {s : Shared} {Q : VK} {us : List Value} {vs : List V}
    (F : FnOk X.prog X.w X.K X.mg X.base CX k f fd ps sp) (hr : Room k X.A) (hb : Binds X.K fd ps []) (hx : ∀ (pins : List (Addr × Obj)) (H : Hp) (s : Shared) (v : Value) (s' : Shared), Inv X pins σ H s → CX X.stack H s E v s' → X.xe v s')
    (I : Inv X pins σ H s) (r : Vals vs us) (h : sp vs H Q E) : wpAny (model X.prog X.w) X.A (call (.ref f) us) (EP X pins σ Q) X.xe s := by
  have hl : us.length = ps.length := by rw [← r.length]; exact F.len _ _ _ _ h
  have hb' := hb s us I.kIn (by rw [List.append_nil]; exact hl)
  rw [List.append_nil] at hb'
  refine wpAny_call (codeAny_mono (F.run X.A X.stack s H ⟨us, []⟩ us vs Q E hr I.env0 hb' r h) fun r s' hq => ?_)
  cases r with
  | error v => exact hx pins H s v s' I hq
  | ok fl => cases fl <;> first | exact I.after hq | exact False.elim hq
/-- what a caught exception is known for -/
noncomputable def excO (e : Addr) (cls : Value) : HO := .ext fun h => ∃ o, h.get? e = some o ∧ o.cls = cls ∧ ∃ vs, o.data = .fields vs
noncomputable def tTryAs (K : PySem.W.Frag) (Ck : Addr) (i : Nat) (tb : XK → TE) (ts : TS) : TS := fun D σ H =>
  tb (fun cls _ H1 => PySem.W.exmOne K cls (.ref Ck) = some true ∧ ∀ e, H1 e = none → ts { nx := fun σ' H' => D.nx (σ'.set i none) H', rt := D.rt, bk := fun σ' H' => D.bk (σ'.set i none) H', ct := fun σ' H' => D.ct (σ'.set i none) H' } (σ.set i (some (.ref e))) (upd H1 e (excO e cls))) σ H fun _ H1 => D.nx σ H1
theorem ps_tryAs {X : Cx} {call : Expr} {tb : XK → TE} {c n : Str} {Ck : Addr} {i : Nat} {b₀ : Stmt} {suite : List Stmt} {ts : TS} {ep cp hp pos : Pos}
    (hx : X.ex = []) (hst : X.stack = X.env :: X.outer) (hf : X.env.frame = some X.env.locals) (hN : X.N.Nodup) (hi : X.N[i]? = some n) (hl : X.env.scope.names.lookup n = some .local) (hg : Gl X c) (hm : X.mg c = some (.ref Ck))
    (hb : PEx X call tb) (hs : ∀ e, PSs (X.inExc e) (b₀ :: suite) ts) (hsw : swapsWith call none ep.line X.env = pure false := by rfl) (hd : (c == ("__debug__" : Str)) = false := by decide) :
    PS X (.Try [.Expr call ep] [.ExceptHandler (some (.Name c cp)) (some n) (b₀ :: suite) hp] [] [] pos) (tTryAs X.K Ck i tb ts) := by
  intro pins s σ H D I h
  refine wpAny_Try_except ?_
  unfold tTryAs at h
  generalize hE : (fun (cls : Value) (_ : Option Addr) (H1 : Hp) => PySem.W.exmOne X.K cls (.ref Ck) = some true ∧ ∀ e, H1 e = none → ts { nx := fun σ' H' => D.nx (σ'.set i none) H', rt := D.rt, bk := fun σ' H' => D.bk (σ'.set i none) H', ct := fun σ' H' => D.ct (σ'.set i none) H' } (σ.set i (some (.ref e))) (upd H1 e (excO e cls))) = E at h
  have ok' : ∀ xe', ({ X with pn := X.pn ++ pins, xe := xe' } : Cx).Ok := fun xe' =>
    ⟨I.ok.mod, I.ok.kind, I.ok.glob, I.ok.blt, I.ok.above, I.ok.inj, I.ok.has, I.ok.cab, I.ok.hd, I.ok.frames, I.ok.stk, I.ok.exf, I.ok.bs, I.ok.bsz, I.ok.noex, I.ok.exfs, I.ok.funs, I.ok.frf⟩
  have toX : ∀ {xe' pins' σ' H' s'}, Inv ({ X with pn := X.pn ++ pins, xe := xe' } : Cx) pins' σ' H' s' → Inv X pins σ' H' s' := fun J =>
    ⟨I.ok, J.os, J.bare, J.base, J.loc, J.cell, J.free, J.freeC, fun p hp => J.pin p (List.mem_append_left _ hp), J.hok, J.len⟩
  have I' : Inv ({ X with pn := X.pn ++ pins, xe := fun v s' => ∃ H1 s1, Inv X pins σ H1 s1 ∧ CX1 X.prog X.w X.stack H1 s1 E v s' } : Cx) [] σ H s :=
    ⟨ok' _, I.os, I.bare, I.base, I.loc, I.cell, I.free, I.freeC, fun p hp => I.pin p (by simpa using hp), I.hok, I.len⟩
  have body := hb E σ (X.pn ++ pins) (fun v s' => ∃ H1 s1, Inv X pins σ H1 s1 ∧ CX1 X.prog X.w X.stack H1 s1 E v s') (fun pins' H1 s1 v s' J q => ⟨H1, s1, toX J, q⟩) [] s H _ I' h
  refine wpAny_mono (wpAny_execs_cons (wpAny_Expr_any (thn body fun v s1 q => ?_) I.quiet hsw) : wpAny (model X.prog X.w) X.A (execs [.Expr call ep] X.env) (fun f s1 => f = .next ∧ ∃ H1, Inv X pins σ H1 s1 ∧ D.nx σ H1) _ s) (fun f s1 q => ?_) ?_
  · obtain ⟨x, H1, J, r, q⟩ := q
    exact wpAny_execs_nil ⟨rfl, H1, toX J, q⟩
  · obtain ⟨rfl, H1, J, q⟩ := q
    exact wpAny_execs_nil ⟨σ, H1, J, q⟩
  · rintro v s' ⟨H1, s1, I1, ea, T, cls, H2, rfl, n1, n2, f1, f2, tr, os, bare, un, hok, hE'⟩
    rw [← hE] at hE'
    obtain ⟨hmt, hsu⟩ := hE'
    have I2 : Inv X pins σ H2 s' := I1.call' os un hok bare fun b z => absurd z (by simp)
    have o1 := I1.ours hx n1
    have o2 := I1.ours hx n2
    have u1 : Ours X pins H2 ea := ⟨o1.1, f1, o1.2.1, o1.2.2.1, o1.2.2.2⟩
    have u2 : Ours X pins H2 T := ⟨o2.1, f2, o2.2.1, o2.2.2.1, o2.2.2.2⟩
    have fr : X.A.frames = some (X.env :: X.outer) := by rw [← hst]; exact I.ok.frames
    have fn : s'.heap.FunFrames X.base (X.env :: X.outer) := by rw [← hst]; exact I2.stack
    refine look_tr fr fn hf tr fun h3 T3 tr3 hT3 k3 => ?_
    have I3 : Inv X pins σ H2 { s' with heap := h3 } := I2.exc hx (ch := [ea, T]) (fun b hb => by
      rcases List.mem_cons.mp hb with z | z
      · rw [z]; exact u1
      · rw [show b = T by simpa using z]; exact u2) (by rw [hst]; exact k3)
    have u3 : Ours X pins H2 T3 := by
      rcases hT3 with z | z
      · rw [z]; exact u2
      · have o3 := I2.ours hx z
        exact ⟨o3.1, I2.hok.none z, o3.2.1, o3.2.2.1, o3.2.2.2⟩
    have LT : PySem.W.Looks (model X.prog X.w) h3 (typeOf (.ref ea)) cls := by
      obtain ⟨oe, vs, oT, ts, a0, he, hc, _⟩ := tr3
      subst hc
      exact (PySem.W.Looks.ld he).andThen .now
    refine wpAny_handleBy_cons (codeAny_handlers_test (ld_glob (I3.inExc ea) hg hm ?_ hd)) (by intro q; cases q)
    refine (PySem.W.exm_one (M := model X.prog X.w) I3.kIn LT hmt) _ _ _ _ (fun _ _ q => q) ?_
    show codeAny _ _ (.handlers (.ref ea) [.ExceptHandler none (some n) (b₀ :: suite) hp] X.env) _ _
    refine codeAny_handlers_suite_as (again_tr (base := X.base) (l := X.stack) I3.stack tr3 fun h5 T5 tr5 hT5 k5 => ?_)
    have I5 : Inv X pins σ H2 { s' with heap := h5 } := Inv.exc (s := { s' with heap := h3 }) I3 hx (ch := [ea, T3]) (fun b hb => by
      rcases List.mem_cons.mp hb with z | z
      · rw [z]; exact u1
      · rw [show b = T3 by simpa using z]; exact u3) k5
    refine store_ok2 (X := X.inExc ea) (I5.inExc ea) hN hi (.inl hl) (v := .ref ea) (u := .ref ea) rfl (fun s6 J6 ⟨ad, sb, had⟩ => ?_) (.inr hl)
    have hne : ea ≠ ad := by
      rcases had with z | z
      · rw [z]; exact u1.loc
      · exact fun y => u1.cell n ad z y.symm
    have new : ObjOk X.prog X.w (upd H2 ea (excO ea cls)) s6.heap ea (excO ea cls) := by
      obtain ⟨oe, vs, oT, ts, a0, he, hc, h0, hd, _⟩ := tr5
      have he6 : s6.heap.get? ea = some oe := (sb.2 ea hne).trans he
      refine ⟨⟨oe, he6, hc, vs, hd⟩, ⟨oe, he6⟩, ?_⟩
      rintro h1 h2 ⟨o, q, r⟩ k
      exact ⟨o, k o q, r⟩
    have J7 : Inv (X.inExc ea) pins (σ.set i (some (.ref ea))) (upd H2 ea (excO ea cls)) s6 := J6.track ⟨u1.new, u1.free, u1.loc, u1.cell, u1.pin⟩ new
    refine wpAny_mono (hs ea pins s6 _ _ _ J7 (hsu ea f1)) (fun f s7 q => ?_) (fun _ _ z => z.elim)
    have go : ∀ {σ' : St} {H' : Hp}, Inv (X.inExc ea) pins σ' H' s7 → ∀ (R : Shared → Prop), (∀ s8, Inv X pins (σ'.set i none) H' s8 → R s8) → wpAny (model X.prog X.w) X.A (do bindName X.env n .none; unbindBehindTheSuite X.env n hp) (fun _ s8 => R s8) X.xe s7 := fun {σ' H'} J R hR => by
      have J0 : Inv X pins σ' H' s7 := J.outExc I.ok
      obtain ⟨m, hn, hlk⟩ := J0.loc
      exact wpAny_nameGoes_keeps hl hn (by rw [I.ok.kind]; rfl) fun h' v hn' hs' => hR _ (J0.unbind hN hi hlk hn' hs')
    cases f with
    | next =>
      obtain ⟨σ', H', J, q⟩ := q
      exact go J _ fun s8 J8 => ⟨_, H', J8, q⟩
    | brk =>
      obtain ⟨σ', H', J, q⟩ := q
      exact go J _ fun s8 J8 => ⟨_, H', J8, q⟩
    | cont =>
      obtain ⟨σ', H', J, q⟩ := q
      exact go J _ fun s8 J8 => ⟨_, H', J8, q⟩
    | ret u =>
      obtain ⟨v, σ', H', J, r, q⟩ := q
      exact go J _ fun s8 J8 => ⟨v, _, H', J8, r, q⟩
end L2

set_option Elab.async false
set_option linter.all false
set_option maxRecDepth 100000
set_option maxHeartbeats 4000000
/-! Own words over the layer: a def with all that a caller asks of it, calls, boots, stores. -/
namespace L2
open PySem PySem.Spec PyProof.Rows
/-- a def of the text, its promise, and how it is called -/
structure Def (P : Program) (w : World) (K : PySem.W.Frag) (mg : Str → Option Value) (base : Heap) (x : Str) (ps : List Str) (k : Nat) (sp : Sp) (f : Addr) (fd : FuncData) : Prop where
  ok : FnOk P w K mg base (CX1 P w) k f fd ps sp
  b : Binds K fd ps []
  kp : PySem.W.keepIn K (.ref f) = true
  m : mg x = some (.ref f)
section
variable {X : Cx} {f : Addr} {fd : FuncData} {ps : List Str} {sp : Sp} {x : Str} {p pos : Pos} {e : Expr} {es : List Expr} {t : TA} {j k : Nat}
theorem pcall (D : Def X.prog X.w X.K X.mg X.base x ps j sp f fd) (hr : Room k X.A) (ha : PA X (e :: es) t) (hjk : j ≤ k := by decide) (hg : Gl X x := by rfl)
    (hdb : (x == ("__debug__" : Str)) = false := by decide) (he : starEach (e :: es) X.env = (false, eval e X.env) :: starEach es X.env := by rfl) (hpl : (backTo pos (starEach es X.env)).any (·.1) = false := by rfl) :
    PE X (.Call (.Name x p) (e :: es) [] pos) (tCall sp [] E0 t) := pe_call D.ok (hr.mono hjk) hg D.m D.kp D.b .nil passN ha hdb he hpl
/-- a call that is tried -/
theorem px_call (D : Def X.prog X.w X.K X.mg X.base x ps j sp f fd) (hr : Room k X.A) (ha : ∀ (pn' : List (Addr × Obj)) (xe' : Value → Shared → Prop), PA { X with pn := pn', xe := xe' } (e :: es) t) (hjk : j ≤ k := by decide) (hg : Gl X x := by rfl)
    (hdb : (x == ("__debug__" : Str)) = false := by decide) (he : starEach (e :: es) X.env = (false, eval e X.env) :: starEach es X.env := by rfl) (hpl : (backTo pos (starEach es X.env)).any (·.1) = false := by rfl) :
    PEx X (.Call (.Name x p) (e :: es) [] pos) (fun E => tCall sp [] E t) := by
  intro E σ pn' xe' hp pins s H Q I h
  refine wpAny_Call_Name_kw (ld_glob (X := { X with pn := pn', xe := xe' }) I hg D.m ?_ hdb)
  refine PySem.W.callWith_K (h₀ := X.base) I.ok.mod.kin D.kp (thn (ha pn' xe' pos pins s σ H _ I h) fun us s1 ⟨vs, H1, I1, r, q⟩ => ⟨I1.kIn, ?_⟩) he hpl
  have q : sp (vs ++ []) H1 Q E := q
  rw [List.append_nil] at q
  exact run_at (X := { X with pn := pn', xe := xe' }) D.ok (hr.mono hjk) D.b hp I1 r q
end
theorem bb_isinstance : bootBuiltins "isinstance" = some (.builtin "isinstance") := by decide +kernel
theorem bb_int : bootBuiltins "int" = some (.type "int") := by decide +kernel
theorem bb_bool : bootBuiltins "bool" = some (.type "bool") := by decide +kernel
theorem bb_list : bootBuiltins "list" = some (.type "list") := by decide +kernel
theorem bb_tuple : bootBuiltins "tuple" = some (.type "tuple") := by decide +kernel
theorem bb_str : bootBuiltins "str" = some (.type "str") := by decide +kernel
theorem bb_len : bootBuiltins "len" = some (.builtin "len") := by decide +kernel
theorem Same.upd {H H' : Hp} (h : Same H H') {p : Addr} (n : H p = none) (o : HO) : Same H (L2.upd H' p o) := fun b u q => by
  rw [upd_ne (ne_of_none q n)]; exact h b u q
theorem Same.new {H H' : Hp} (h : Same H H') {p : Addr} (n : H' p = none) (o : HO) : Same H (L2.upd H' p o) := h.trans fun b u q => by
  rw [upd_ne (ne_of_none q n)]; exact q
theorem sz {n : Nat} (h : n ≤ 1000000) : n ≤ sizeLine := Nat.le_trans h (by decide)
theorem sz' {n : Nat} (h : n ≤ 1000000) : n < sizeLine := Nat.lt_of_le_of_lt h (by decide)
/-- x in {int} and not bool: what isinstance says of an int -/
theorem kit_int_int {K : PySem.W.Frag} : PySem.W.kitOne K (.type "int") (.type "int") = some true := by rfl
theorem kit_list_list {K : PySem.W.Frag} : PySem.W.kitOne K (.type "list") (.type "list") = some true := by rfl
theorem kit_str_str {K : PySem.W.Frag} : PySem.W.kitOne K (.type "str") (.type "str") = some true := by rfl
theorem kit_int_bool {K : PySem.W.Frag} : PySem.W.kitOne K (.type "int") (.type "bool") = some false := by rfl
theorem atI_int {ns : List Int} {i : Int} (h0 : 0 ≤ i) (h1 : i < (ns.length : Int)) : atI (ns.map V.int) i = some (.int (ns.getD i.toNat 0)) := by
  have hk : i.toNat < ns.length := by omega
  have ek : i = ((i.toNat : Nat) : Int) := by omega
  have q : atI (ns.map V.int) ((i.toNat : Nat) : Int) = some (.int (ns.getD i.toNat 0)) := atI_nat (by rw [List.getElem?_map, List.getD_eq_getElem?_getD, List.getElem?_eq_getElem hk] <;> rfl)
  rw [← ek] at q
  exact q
end L2
namespace L2
open PySem PySem.Spec PyProof.Rows
theorem ttN {σ : St} {H : Hp} {F : Bool → Hp → Prop} (h : F true H) : ttNil σ H F := h
theorem pm {j : Int} (h : 0 < j) : 0 < j := h
/-- the items of a cut list of ints -/
noncomputable def cutI (ns : List Int) (lo hi : Option Int) : List Int := (ns.drop (HT.sIx ns.length 0 lo)).take (HT.sIx ns.length ns.length hi - HT.sIx ns.length 0 lo)
theorem cutV_map (ns : List Int) (lo hi : Option Int) : cutV (ns.map V.int) lo hi = (cutI ns lo hi).map V.int := by
  unfold cutV cutI
  rw [List.length_map, List.map_take, List.map_drop]
theorem get_int {ns : List Int} {i : Nat} {x : V} (h : (ns.map V.int)[i]? = some x) : ∃ c, x = .int c := by
  rw [List.getElem?_map] at h
  cases e : ns[i]? with
  | none => rw [e] at h; cases h
  | some c => rw [e] at h; cases h; exact ⟨c, rfl⟩
end L2
namespace L2
open PySem PySem.Spec PyProof.Rows
/-- a sequence cut at what holds between -/
noncomputable def tCut (t u : TS) : TS := fun D σ H => ∃ P : St → Hp → Prop, t { D with nx := P } σ H ∧ ∀ σ' H', P σ' H' → u D σ' H'
theorem pss_cut {X : Cx} {st : Stmt} {rest : List Stmt} {t u : TS} (h1 : PS X st t) (h2 : PSs X rest u) : PSs X (st :: rest) (tCut t u) := by
  intro pins s σ H D I h
  obtain ⟨P, ha, hb⟩ := h
  refine wpAny_execs_cons (thn (h1 pins s σ H { D with nx := P } I ha) fun f s1 q => ?_)
  cases f with
  | next =>
    obtain ⟨σ', H', I', q⟩ := q
    exact h2 pins s1 σ' H' D I' (hb σ' H' q)
  | ret v => exact q
  | brk => exact q
  | cont => exact q
theorem iteB {b b' : Bool} {A B : Prop} (e : b = b') (h : if b' = true then A else B) : if b = true then A else B := by rw [e]; exact h
theorem iteP {c A B : Prop} [Decidable c] (hc : c) (h : A) : if decide c = true then A else B := by rw [decide_eq_true hc]; exact iteT h
theorem iteN {c A B : Prop} [Decidable c] (hc : ¬ c) (h : B) : if decide c = true then A else B := by rw [decide_eq_false hc]; exact iteF h
theorem ixN_nat {n : Nat} {i : Int} (h0 : 0 ≤ i) (h1 : i < n) : ixN n i = some i.toNat := by unfold ixN; rw [if_pos h0, if_pos h1]
/-- one sign as a value -/
noncomputable def sgn (c : Nat) : V := .str ⟨#[c]⟩
theorem p40 : (Str.ofString "(") = ⟨#[40]⟩ := by decide +kernel
theorem p41 : (Str.ofString ")") = ⟨#[41]⟩ := by decide +kernel
theorem sgn40 : V.str (Str.ofString "(") = sgn 40 := by rw [p40]; rfl
theorem sgn41 : V.str (Str.ofString ")") = sgn 41 := by rw [p41]; rfl
theorem sgn_inj {c d : Nat} (h : sgn c = sgn d) : c = d := by
  unfold sgn at h
  injection h with h
  injection h with h
  have h2 := congrArg Array.toList h
  simpa using h2
theorem dec40 (c : Nat) : decide (V.str ⟨#[c]⟩ = V.str (Str.ofString "(")) = decide (c = 40) := by
  rw [sgn40]
  show decide (sgn c = sgn 40) = _
  by_cases h : c = 40
  · subst h; rw [decide_eq_true rfl, decide_eq_true rfl]
  · rw [decide_eq_false h, decide_eq_false fun z => h (sgn_inj z)]
theorem dec41 (c : Nat) : decide (V.str ⟨#[c]⟩ = V.str (Str.ofString ")")) = decide (c = 41) := by
  rw [sgn41]
  show decide (sgn c = sgn 41) = _
  by_cases h : c = 41
  · subst h; rw [decide_eq_true rfl, decide_eq_true rfl]
  · rw [decide_eq_false h, decide_eq_false fun z => h (sgn_inj z)]
theorem drop_cps {x : Str} {i c : Nat} (h : x.cps[i]? = some c) : x.cps.toList.drop i = c :: x.cps.toList.drop (i + 1) := by
  have h' : x.cps.toList[i]? = some c := by simpa using h
  obtain ⟨hi, e⟩ := List.getElem?_eq_some_iff.mp h'
  rw [List.drop_eq_getElem_cons hi, e]
theorem drop_all (x : Str) : x.cps.toList.drop x.cps.size = [] := List.drop_eq_nil_of_le (by simp)
theorem len_cps (x : Str) : x.cps.toList.length = x.length := by simp [Str.length]
/-- a text of single signs, joined by nothing -/
theorem glue_list (sep : Str) (hs : sep.cps = #[]) : ∀ (ys : List Str) (acc : Array Nat), (ys.foldl (fun acc p => acc ++ sep.cps ++ p.cps) acc).toList = acc.toList ++ (ys.map (·.cps.toList)).flatten
  | [], acc => by simp
  | y :: r, acc => by
    rw [List.foldl_cons, glue_list sep hs r]
    simp [hs]
theorem join_codes (sep : Str) (hs : sep.cps = #[]) (ys : List Str) : (Txt.join sep ys).cps.toList = (ys.map (·.cps.toList)).flatten := by
  unfold Txt.join Builtin.Str.glued
  show ((ys.drop 1).foldl (fun acc p => acc ++ sep.cps ++ p.cps) (ys.headD Str.empty).cps).toList = _
  rw [glue_list sep hs]
  cases ys with
  | nil => rfl
  | cons y r => simp
theorem empty_cps : (Str.ofString "").cps = #[] := by decide +kernel
noncomputable def mkS (c : Nat) : Str := ⟨#[c]⟩
theorem map_sgn (l : List Nat) : l.map sgn = (l.map mkS).map V.str := by rw [List.map_map]; rfl
theorem flat_mkS : ∀ l : List Nat, ((l.map mkS).map (·.cps.toList)).flatten = l
  | [] => rfl
  | c :: r => by rw [List.map_cons, List.map_cons, List.flatten_cons, flat_mkS r]; rfl
theorem join_sgn (l : List Nat) : (Txt.join (Str.ofString "") (l.map mkS)).cps.toList = l := by rw [join_codes _ empty_cps, flat_mkS]
theorem sum_mkS : ∀ l : List Nat, ((l.map mkS).map (·.length)).sum = l.length
  | [] => rfl
  | c :: r => by
    rw [List.map_cons, List.map_cons, List.sum_cons, sum_mkS r, List.length_cons]
    show 1 + r.length = r.length + 1
    omega
theorem len_of_codes {x : Str} {l : List Nat} (h : x.cps.toList = l) : x.length = l.length := by rw [← len_cps, h]
theorem at_text {z : Str} {m : Int} (h : 0 < z.length) : ∃ c, atI z.cps.toList (m % (z.length : Int)) = some c := by
  have e0 := Int.emod_nonneg m (show (z.length : Int) ≠ 0 by omega)
  have e1 := Int.emod_lt_of_pos m (show (0 : Int) < (z.length : Int) by omega)
  have hk : (m % (z.length : Int)).toNat < z.cps.toList.length := by rw [len_cps]; omega
  refine ⟨z.cps.toList[(m % (z.length : Int)).toNat], ?_⟩
  have q := atI_nat (xs := z.cps.toList) (j := (m % (z.length : Int)).toNat) (List.getElem?_eq_getElem hk)
  rw [show (((m % (z.length : Int)).toNat : Nat) : Int) = m % (z.length : Int) by omega] at q
  exact q
theorem app_length (x y : Str) : (x ++ y).length = x.length + y.length := by
  show (x.cps ++ y.cps).size = _
  rw [Array.size_append]; rfl
theorem cutI_length (ns : List Int) (lo hi : Option Int) : (cutI ns lo hi).length ≤ ns.length := by
  unfold cutI; rw [List.length_take, List.length_drop]; omega
theorem cutI_from (ns : List Int) {t : Int} (h : 0 ≤ t) : cutI ns (some t) none = ns.drop t.toNat := by
  unfold cutI
  have e1 : HT.sIx ns.length 0 (some t) = min t.toNat ns.length := by
    show (if t < 0 then _ else _) = _
    rw [if_neg (by omega)]
  rw [e1, HT.sIx_none]
  by_cases hl : t.toNat ≤ ns.length
  · rw [Nat.min_eq_left hl]; exact List.take_of_length_le (by simp)
  · rw [Nat.min_eq_right (by omega), List.drop_eq_nil_of_le (Nat.le_refl _), List.drop_eq_nil_of_le (by omega)]; simp
end L2

/-! Mathematics of the counts: the rule, the shares, the rests. No library. -/
namespace Ck
/-- the shares by sums -/
noncomputable def shL : Nat → List Int
  | 0 => [1]
  | k + 1 => shL k ++ [((List.range (k + 1)).map fun j => (shL k).getD j 0 * (shL k).getD (k - j) 0).sum]
noncomputable def sh (k : Nat) : Int := (shL k).getD k 0
end Ck

/-! Mathematics of the rests and of the places of texts. -/
namespace Ck
/-- r(u, d) -/
noncomputable def r : Nat → Nat → Int
  | 0, _ => 1
  | _ + 1, 0 => 0
  | u + 1, d + 1 => if d < u then 0 else r u (d + 1) + r (u + 1) d
/-- the row of u for a size n -/
noncomputable def row (n u : Nat) : List Int := (List.range (n + 1 - u)).map fun i => r u (u + i)
/-- the product of k factors -/
noncomputable def pw (a : Int) : Nat → Int
  | 0 => 1
  | k + 1 => pw a k * a
end Ck

/-! Mathematics of texts that close: signs are codes, 40 is the opening one, 41 the closing one. u of the first and d of the second are still to come. -/
namespace Ck
/-- the text closes, from depth k on -/
noncomputable def clo : Nat → List Nat → Bool
  | k, [] => k == 0
  | k, c :: t => if c = 40 then clo (k + 1) t else if c = 41 then (match k with | 0 => false | k + 1 => clo k t) else false
theorem clo_up (k : Nat) (t : List Nat) : clo k (40 :: t) = clo (k + 1) t := by
  conv => lhs; unfold clo
  rw [if_pos rfl]
theorem clo_down (k : Nat) (t : List Nat) : clo (k + 1) (41 :: t) = clo k t := by
  conv => lhs; unfold clo
  rw [if_neg (by decide), if_pos rfl]
theorem clo_under (t : List Nat) : clo 0 (41 :: t) = false := by
  unfold clo
  rw [if_neg (by decide), if_pos rfl]
theorem clo_other {k c : Nat} {t : List Nat} (h1 : ¬ c = 40) (h2 : ¬ c = 41) : clo k (c :: t) = false := by
  unfold clo
  rw [if_neg h1, if_neg h2]
theorem clo_nil (k : Nat) : clo k [] = (k == 0) := by unfold clo; rfl
/-- a good rest of a text: u opening and d closing signs, never more closed than opened (d - u is the depth) -/
inductive Good : Nat → Nat → List Nat → Prop
  | nil : Good 0 0 []
  | up {u d : Nat} {t : List Nat} (h : Good u d t) (le : u + 1 ≤ d) : Good (u + 1) d (40 :: t)
  | down {u d : Nat} {t : List Nat} (h : Good u d t) (le : u ≤ d) : Good u (d + 1) (41 :: t)
theorem Good.length {u d : Nat} {t : List Nat} (h : Good u d t) : t.length = u + d := by
  induction h with
  | nil => rfl
  | up _ _ ih => rw [List.length_cons, ih]; omega
  | down _ _ ih => rw [List.length_cons, ih]; omega
/-- what closes from depth k is a good rest -/
theorem good_of_clo : ∀ (t : List Nat) (k : Nat), clo k t = true → ∃ u, Good u (u + k) t
  | [], k, h => by
    have e : k = 0 := by simpa [clo] using h
    subst e
    exact ⟨0, .nil⟩
  | c :: t, k, h => by
    unfold clo at h
    by_cases h1 : c = 40
    · rw [if_pos h1] at h
      obtain ⟨u, g⟩ := good_of_clo t (k + 1) h
      subst h1
      refine ⟨u + 1, ?_⟩
      rw [show u + 1 + k = u + (k + 1) by omega]
      exact .up g (by omega)
    · rw [if_neg h1] at h
      by_cases h2 : c = 41
      · rw [if_pos h2] at h
        cases k with
        | zero => cases h
        | succ k =>
          obtain ⟨u, g⟩ := good_of_clo t k h
          subst h2
          exact ⟨u, Good.down g (Nat.le_add_right u k)⟩
      · rw [if_neg h2] at h; cases h
/-- the order of texts, the opening sign first -/
noncomputable def lt : List Nat → List Nat → Bool
  | c :: s, e :: t => if c = e then lt s t else c == 40
  | _, _ => false
end Ck

set_option Elab.async false
set_option linter.all false
set_option maxRecDepth 100000
set_option maxHeartbeats 4000000
/-! Texts as lists of codes: slices, counts, repeats. -/
namespace Ck
open PySem
theorem cps_len (x : Str) : x.cps.toList.length = x.length := by simp [Str.length]
/-- a bound of a slice as a place -/
noncomputable def ix (n d : Nat) : Option Int → Nat
  | none => d
  | some v => if v < 0 then (v + (n : Int)).toNat else min v.toNat n
theorem pick_range (l : List Nat) : ∀ (k a : Nat), ((List.range k).map fun j => a + j).filterMap (fun j => l[j]?) = (l.drop a).take k
  | 0, a => by simp
  | k + 1, a => by
    rw [List.range_succ, List.map_append, List.filterMap_append, pick_range l k a, List.take_add_one]
    congr 1
    rw [List.getElem?_drop]
    cases h : l[a + k]? <;> simp [h]
theorem slice_indices (lo hi : Option Int) (n : Nat) : Builtin.Str.strSliceIndices lo hi 1 n = (List.range (ix n n hi - ix n 0 lo)).map fun j => ix n 0 lo + j := by
  have key : ∀ (a b : Nat), sliceRange (a : Int) (b : Int) 1 = (List.range (b - a)).map fun j => a + j := by
    intro a b
    unfold sliceRange
    simp only [show (1 : Int) > 0 by decide, if_true, Int.ediv_one]
    have e : (if (a : Int) < (b : Int) then (b : Int) - (a : Int) + 1 - 1 else 0).toNat = b - a := by split <;> omega
    rw [e]
    refine List.map_congr_left fun j _ => ?_
    omega
  unfold Builtin.Str.strSliceIndices
  have elo : (match lo with | none => (0 : Int) | some i => max 0 (min (if i < 0 then i + (n : Int) else i) (n : Int))) = ((ix n 0 lo : Nat) : Int) := by
    cases lo with
    | none => rfl
    | some i =>
      show max 0 (min (if i < 0 then i + (n : Int) else i) (n : Int)) = (((if i < 0 then (i + (n : Int)).toNat else min i.toNat n) : Nat) : Int)
      split <;> omega
  have ehi : (match hi with | none => (n : Int) | some i => max 0 (min (if i < 0 then i + (n : Int) else i) (n : Int))) = ((ix n n hi : Nat) : Int) := by
    cases hi with
    | none => rfl
    | some i =>
      show max 0 (min (if i < 0 then i + (n : Int) else i) (n : Int)) = (((if i < 0 then (i + (n : Int)).toNat else min i.toNat n) : Nat) : Int)
      split <;> omega
  rw [← key, ← elo, ← ehi]
  cases lo <;> cases hi <;> simp <;> rfl
theorem slice_codes (x : Str) (lo hi : Option Int) : (Txt.slice x lo hi).cps.toList = (x.cps.toList.drop (ix x.length 0 lo)).take (ix x.length x.length hi - ix x.length 0 lo) := by
  have e : ((Builtin.Str.strSliceIndices lo hi 1 x.length).filterMap (x.cps[·]?)) = (x.cps.toList.drop (ix x.length 0 lo)).take (ix x.length x.length hi - ix x.length 0 lo) := by
    rw [slice_indices, ← pick_range]
    congr 1
    funext j
    simp
  unfold Txt.slice
  split
  · rename_i h
    have hl : (Builtin.Str.strSliceIndices lo hi 1 x.length).length = x.length := by simpa using h
    rw [slice_indices, List.length_map, List.length_range] at hl
    have h1 : ix x.length x.length hi ≤ x.length := by
      cases hi with
      | none => exact Nat.le_refl _
      | some v => show (if v < 0 then (v + (x.length : Int)).toNat else min v.toNat x.length) ≤ x.length; split <;> omega
    have h2 : x.length = 0 ∨ ix x.length 0 lo = 0 := by omega
    have h3 : ix x.length x.length hi - ix x.length 0 lo = x.length := hl
    rw [h3]
    rcases h2 with h2 | h2
    · have : x.cps.toList = [] := List.eq_nil_of_length_eq_zero (by rw [cps_len]; exact h2)
      rw [this]; simp
    · rw [h2, List.drop_zero, List.take_of_length_le (by rw [cps_len]; exact Nat.le_refl _)]
  · show ((Builtin.Str.strSliceIndices lo hi 1 x.length).filterMap (x.cps[·]?)).toArray.toList = _
    rw [← e]
theorem slice_to {x : Str} {p : Int} (h0 : 0 ≤ p) : (Txt.slice x none (some p)).cps.toList = x.cps.toList.take p.toNat := by
  rw [slice_codes]
  have e : ix x.length x.length (some p) = min p.toNat x.length := by show (if p < 0 then _ else _) = _; rw [if_neg (by omega)]
  rw [e]
  show (x.cps.toList.drop 0).take (min p.toNat x.length - 0) = _
  rw [List.drop_zero, Nat.sub_zero]
  by_cases h : p.toNat ≤ x.length
  · rw [Nat.min_eq_left h]
  · rw [Nat.min_eq_right (by omega), List.take_of_length_le (by rw [cps_len]; exact Nat.le_refl _), List.take_of_length_le (by rw [cps_len]; omega)]
theorem slice_from {x : Str} {p : Int} (h0 : 0 ≤ p) : (Txt.slice x (some p) none).cps.toList = x.cps.toList.drop p.toNat := by
  rw [slice_codes]
  have e : ix x.length 0 (some p) = min p.toNat x.length := by show (if p < 0 then _ else _) = _; rw [if_neg (by omega)]
  rw [e]
  show (x.cps.toList.drop (min p.toNat x.length)).take (x.length - min p.toNat x.length) = _
  by_cases h : p.toNat ≤ x.length
  · rw [Nat.min_eq_left h, List.take_of_length_le (by rw [List.length_drop, cps_len]; exact Nat.le_refl _)]
  · rw [Nat.min_eq_right (by omega), Nat.sub_self, List.drop_eq_nil_of_le (show x.cps.toList.length ≤ p.toNat by rw [cps_len]; omega)]; simp
theorem app_codes (x y : Str) : (x ++ y).cps.toList = x.cps.toList ++ y.cps.toList := by
  show (x.cps ++ y.cps).toList = _
  simp
/-- how often a sign stands -/
theorem occ_loop (x : Str) (c : Nat) : ∀ (m i : Nat) (st : Array Nat × Nat), st.2 ≤ i → st.1.size ≤ i → i + m ≤ x.length + 1 →
    (forIn (List.range' i m) st (StrLaws.occBody x ⟨#[c]⟩ x.length (x.length + 1))).run.fst.size = st.1.size + ((x.cps.toList.drop i).take m).count c
  | 0, i, st, _, _, _ => by
    show st.1.size = _
    simp
  | m + 1, i, st, h1, h2, h3 => by
    rw [List.range'_succ, List.forIn_cons]
    unfold StrLaws.occBody
    have hone := StrLaws.subAt_one x c i
    have step : (x.cps.toList.drop i).take (m + 1) = (match x.cps.toList[i]? with | some a => [a] | none => []) ++ (x.cps.toList.drop (i + 1)).take m := by
      cases hx : x.cps.toList[i]? with
      | none =>
        have := List.getElem?_eq_none_iff.mp hx
        rw [List.drop_eq_nil_of_le this, List.drop_eq_nil_of_le (by omega)]; simp
      | some a =>
        obtain ⟨hlt, e⟩ := List.getElem?_eq_some_iff.mp hx
        rw [List.drop_eq_getElem_cons hlt, e]; rfl
    by_cases hc : x.cps.toList[i]? = some c
    · have hs := hone.mpr hc
      rw [if_pos ⟨⟨⟨by omega, h1⟩, hs.1⟩, hs.2⟩]
      show (forIn (List.range' (i + 1) m) (st.1.push i, i + 1) (StrLaws.occBody x ⟨#[c]⟩ x.length (x.length + 1))).run.fst.size = _
      rw [occ_loop x c m (i + 1) _ (Nat.le_refl _) (by simp; omega) (by omega), step, hc]
      simp
      omega
    · rw [if_neg fun h => hc (hone.mp ⟨h.1.2, h.2⟩)]
      show (forIn (List.range' (i + 1) m) (st.1, st.2) (StrLaws.occBody x ⟨#[c]⟩ x.length (x.length + 1))).run.fst.size = _
      rw [occ_loop x c m (i + 1) (st.1, st.2) (Nat.le_succ_of_le h1) (Nat.le_succ_of_le h2) (by omega), step]
      cases hx : x.cps.toList[i]? with
      | none => simp
      | some a =>
        rw [hx] at hc
        have hne : a ≠ c := fun e => hc (by rw [e])
        simp [List.count_cons, hne]
theorem count_one (x : Str) (c : Nat) : Txt.count x ⟨#[c]⟩ = ((x.cps.toList.count c : Nat) : Int) := by
  unfold Txt.count
  rw [StrLaws.occ_eq, Array.length_toList, Nat.sub_zero, occ_loop x c _ 0 _ (Nat.le_refl _) (by simp) (by omega)]
  rw [List.drop_zero, List.take_of_length_le (by rw [cps_len]; omega)]
  simp
end Ck

set_option Elab.async false
set_option linter.all false
set_option maxRecDepth 100000
set_option maxHeartbeats 4000000
/-! Where the mathematics and the layer meet. -/
namespace Ck
open PySem L2
end Ck
namespace L2
open PySem
end L2
namespace Ck
open PySem L2
end Ck
namespace L2
open PySem PySem.Spec PyProof.Rows
theorem vals_of_signs {l : List Nat} : ∀ {us : List Value}, us.length = l.length → (∀ (j : Nat) v, us[j]? = some v → ∃ c u, l[j]? = some c ∧ v = .str ⟨#[c]⟩ u) → Vals (l.map sgn) us := by
  induction l with
  | nil => intro us h _; rw [List.eq_nil_of_length_eq_zero h]; exact .nil
  | cons c l ih =>
    intro us h k
    cases us with
    | nil => cases h
    | cons v us =>
      obtain ⟨c', u, e1, e2⟩ := k 0 v rfl
      have : c = c' := by simpa using e1
      subst this
      exact .cons ⟨u, e2⟩ (ih (by simpa using h) fun j w e => by
        obtain ⟨c2, u2, f1, f2⟩ := k (j + 1) w (by simpa using e)
        exact ⟨c2, u2, by simpa using f1, f2⟩)
theorem call_listS {X : Cx} (hc : X.calm = true) : CallR X (.type "list") (fun xs H Q => ∃ z, xs = [.str z] ∧ z.length ≤ sizeLine ∧ ∀ l, H l = none → Q (.ref l) (upd H l (.lst (z.cps.toList.map sgn)))) := by
  intro pins s σ H xs us Q I r h
  obtain ⟨z, rfl, hz, q⟩ := h
  obtain ⟨u, rfl, t, rfl⟩ := vals1 r
  refine PySem.call_list_str (I.ok.hd hc) z t (fun h' tk acc' c' hk he hacc => ?_) hz
  have hl : acc'.toList.length = z.cps.toList.length := by simpa using hacc.1
  refine ⟨.ref s.heap.objs.size, _, I.laid (t' := tk) (o := .lst (z.cps.toList.map sgn)) hk (Nat.le_refl _) ⟨?_, acc'.toList, c', vals_of_signs hl fun j v e => ?_, he⟩, rfl, q _ (I.hok.fresh (Nat.le_refl _))⟩
  · rw [List.length_map, len_cps]; exact hz
  · obtain ⟨c, u, e1, e2⟩ := hacc.2 j v (by simpa using e)
    exact ⟨c, u, by simpa using e1, e2⟩
noncomputable def rCount : V → List V → Hp → VK → Prop := fun x vs H Q => ∃ z y, x = .str z ∧ vs = [.str y] ∧ Q (.int (Txt.count z y)) H
theorem mt_count {X : Cx} : MtM X "str.count" rCount := by
  intro pins s σ H x xs v us Q I rx rs h
  obtain ⟨z, y, rfl, rfl, q⟩ := h
  obtain ⟨t, rfl⟩ := rx
  obtain ⟨u, rfl, t', rfl⟩ := vals1 rs
  exact SC.count ⟨.int (Txt.count z y), H, I.tok _, ⟨_, rfl⟩, q⟩
theorem at_code {x : Str} {i : Int} {c : Nat} (h0 : 0 ≤ i) (h : x.cps.toList[i.toNat]? = some c) : atI x.cps.toList i = some c := by
  have q := atI_nat (xs := x.cps.toList) (j := i.toNat) h
  rw [show ((i.toNat : Nat) : Int) = i by omega] at q
  exact q
theorem str_ext {x y : Str} (h : x.cps.toList = y.cps.toList) : x = y := by
  obtain ⟨a⟩ := x
  obtain ⟨b⟩ := y
  have : a = b := by
    have h' : a.toList = b.toList := h
    rw [← Array.toArray_toList (xs := a), h', Array.toArray_toList]
  rw [this]
end L2
namespace Ck
open PySem L2
/-- between two turns that write a text: a beginning l with u opening signs, at depth h -/
structure Beg (n : Nat) (l : List Nat) (i u h : Nat) : Prop where
  len : l.length = i
  bal : 2 * u = i + h
  le : u ≤ n
  clo : ∀ t, Ck.clo 0 (l ++ t) = Ck.clo h t
theorem Beg.up {n : Nat} {l : List Nat} {i u h : Nat} (b : Beg n l i u h) (hu : u < n) : Beg n (l ++ [40]) (i + 1) (u + 1) (h + 1) :=
  ⟨by rw [List.length_append, b.len]; rfl, by have := b.bal; omega, hu, fun t => by rw [List.append_assoc, b.clo]; exact clo_up h t⟩
theorem Beg.down {n : Nat} {l : List Nat} {i u h : Nat} (b : Beg n l i u (h + 1)) : Beg n (l ++ [41]) (i + 1) u h :=
  ⟨by rw [List.length_append, b.len]; rfl, by have := b.bal; omega, b.le, fun t => by rw [List.append_assoc, b.clo]; exact clo_down h t⟩
/-- every beginning of a good text -/
theorem prefix_beg {n : Nat} {c : List Nat} (g : Good n n c) : ∀ i, i ≤ c.length → ∃ h u', Beg n (c.take i) i ((c.take i).count 40) h ∧ Good u' (u' + h) (c.drop i) ∧ (c.take i).count 40 + u' = n
  | 0, _ => ⟨0, n, ⟨rfl, rfl, by simp, fun t => rfl⟩, g, by simp⟩
  | i + 1, hi => by
    obtain ⟨h, u', b, gd, e⟩ := prefix_beg g i (by omega)
    have hlt : i < c.length := by omega
    rw [List.drop_eq_getElem_cons hlt] at gd
    have et : c.take (i + 1) = c.take i ++ [c[i]] := by rw [List.take_add_one, List.getElem?_eq_getElem hlt]; rfl
    generalize hc : c[i] = x at gd et
    generalize hd : u' + h = d at gd
    rw [et]
    cases gd with
    | @up v d t g' le =>
      refine ⟨h + 1, v, ?_, ?_, ?_⟩
      · have := b.up (by omega)
        rw [List.count_append, show List.count 40 [40] = 1 by rfl]
        exact this
      · rw [show v + (h + 1) = d by omega]; exact g'
      · rw [List.count_append, show List.count 40 [40] = 1 by rfl]; omega
    | @down v d' t g' le =>
      obtain ⟨h', rfl⟩ : ∃ h', h = h' + 1 := ⟨h - 1, by omega⟩
      refine ⟨h', u', ?_, ?_, ?_⟩
      · have := b.down
        rw [List.count_append, show List.count 40 [41] = 0 by rfl]
        exact this
      · rw [show u' + h' = d' by omega]; exact g'
      · rw [List.count_append, show List.count 40 [41] = 0 by rfl]; omega
end Ck

set_option Elab.async false
set_option linter.all false
set_option maxRecDepth 100000
set_option maxHeartbeats 4000000
/-! Own rules over the layer: a range that goes down, lists compared, isinstance of an exception. -/
namespace L2
open PySem PySem.Spec PyProof.Rows
/-- lo, lo - 1, .. (n of them) -/
noncomputable def Itd (lo : Int) (n : Nat) : It := ⟨fun i _ => i < n, fun i H x H' => H' = H ∧ x = .int (lo - i), fun i _ => n ≤ i⟩
theorem turn_down {P : Program} {w : World} {K : PySem.W.Frag} {tg : Expr} (it : Addr) (lo : Int) (n : Nat) : Turn P w K tg (Itd lo n) [it] it (fun i h => IsRangeIter h it (lo + (i : Nat) * (-1)) ((n : Int) - (i : Nat)) (-1)) where
  mem := by simp
  obj := fun i h st b hb => by
    have e : b = it := by simpa using hb
    subst e
    exact ⟨_, st, fun v z => by
      have z' : Data.fields _ = Data.cell v := z
      cases z'⟩
  keep := fun i h h' st k => k it (by simp) _ st
  item := by
    intro X hP hw hK hc i pins s σ H E I hf st hg
    subst hP hw hK
    obtain ⟨f0, f1, f2, f3, f4, f5⟩ := hf it (by simp)
    refine (Walks.range (prog := X.prog) (w := X.w) (I.ok.hd hc) it lo (-1) n).item i s _ _ hg st fun v h' tk hv st' kk => ?_
    obtain ⟨t, rfl⟩ := hv
    have I1 : Inv X pins σ H { s with heap := h', toks := tk } := I.turned (fun b o hb e => kk b o (by simpa using hb) e) f0 f1 f3 f4 f5
    refine ⟨_, rfl, go_of (s := { s with heap := h', toks := tk }) (n := "range_iterator") st' rfl rfl (by decide) ⟨.int (lo - i), H, I1, ⟨t, ?_⟩, ⟨rfl, rfl⟩, st', fun b hb => (hf b hb).1⟩⟩
    rw [show lo + (i : Int) * (-1) = lo - (i : Int) by omega]
  done := by
    intro X hP hw hK hc i pins s σ H E I hf st hg
    subst hP hw hK
    obtain ⟨f0, f1, f2, f3, f4, f5⟩ := hf it (by simp)
    exact wpAny_pyNext_range_end (I.ok.hd hc) st (by have : n ≤ i := hg; omega) fun h' eb => ⟨rfl, I.turned (t' := s.toks) (fun b o hb e => eb b o hb e) f0 f1 f3 f4 f5⟩
  self := fun _ _ _ _ _ st h => wpAny_pyIter_rangeiter st h
section
variable {X : Cx} {tg : Expr}
theorem down_it {pins : List (Addr × Obj)} {σ : St} {H : Hp} {s : Shared} {R : It → Hp → Prop} {E : Value → Shared → Prop} {lo hi : Int} {t u v : Tok} {tk : Nat} (I : Inv X pins σ H s) (h1 : -(2 ^ 62) ≤ lo) (h2 : lo < 2 ^ 62) (h3 : -(2 ^ 62) ≤ hi) (h4 : hi < 2 ^ 62)
    (q : R (Itd lo (lo - hi).toNat) H) : wpAny (model X.prog X.w) X.A (pyIter (.ref s.heap.objs.size)) (PIE X pins σ tg R) E { s with heap := s.heap.push { cls := .type "range", data := .fields #[.int lo t, .int hi u, .int (-1) v] }, toks := tk } := by
  refine wpAny_pyIter_range (IsRange.new ..) (PySem.W.small_down h1 h2 h3 h4) ?_
  have I1 : Inv X pins σ H { s with heap := s.heap.push { cls := .type "range", data := .fields #[.int lo t, .int hi u, .int (-1) v] }, toks := tk } := I.kept fun b o e => Heap.get?_push_of_some _ e
  refine ⟨(s.heap.push { cls := .type "range", data := .fields #[.int lo t, .int hi u, .int (-1) v] }).objs.size, [(s.heap.push { cls := .type "range", data := .fields #[.int lo t, .int hi u, .int (-1) v] }).objs.size], _, _, H, rfl,
    I1.kept (t' := tk) fun b o e => Heap.get?_push_of_some _ e, turn_down _ lo (lo - hi).toNat, ?_, fun b hb => ?_, q⟩
  · have e1 : lo + ((0 : Nat) : Int) * (-1) = lo := by simp
    have e2 : (((lo - hi).toNat : Nat) : Int) - ((0 : Nat) : Int) = Builtin.Range.rangeSize lo hi (-1) := by rw [PySem.W.rangeSize_downNat]; simp
    show IsRangeIter _ _ (lo + ((0 : Nat) : Int) * (-1)) ((((lo - hi).toNat : Nat) : Int) - ((0 : Nat) : Int)) (-1)
    rw [e1, e2]
    exact Heap.get?_push_size _ rfl
  · have e : b = (s.heap.push { cls := .type "range", data := .fields #[.int lo t, .int hi u, .int (-1) v] }).objs.size := by simpa using hb
    subst e
    exact I1.fpOk (Nat.le_refl _) (I1.hok.fresh (Nat.le_refl _))
noncomputable def iDown (ta : TA) : TI := fun σ H R => ta σ H fun vs H1 => ∃ i j : Int, vs = [.int i, .int j, .int (-1)] ∧ (-(2 ^ 62) ≤ i ∧ i < 2 ^ 62 ∧ -(2 ^ 62) ≤ j ∧ j < 2 ^ 62) ∧ R (Itd i (i - j).toNat) H1
theorem pi_down {a b c : Expr} {ta : TA} {p pos : Pos} (hg : Gl X "range") (hm : X.mg "range" = none) (ha : PA X [a, b, c] ta) (hs : starEach [a, b, c] X.env = [(false, eval a X.env), (false, eval b X.env), (false, eval c X.env)] := by rfl) (hs2 : starEach [b, c] X.env = [(false, eval b X.env), (false, eval c X.env)] := by rfl) :
    PI X tg (.Call (.Name "range" p) [a, b, c] [] pos) (iDown ta) := by
  intro pins s σ H R I h
  refine Call_ (ld_blt I hg hm boot_range (PyProof.Rows.callWith_type1 (thn (ha pos pins s σ H _ I h) fun us s1 ⟨vs, H1, I1, r1, q1⟩ => ?_) (by rw [hs, hs2]) (by rw [hs2]; rfl)))
  obtain ⟨i, j, e, ⟨q1, q2, q3, q4⟩, q⟩ := q1
  subst e
  obtain ⟨u1, u2, u3, rfl, ⟨t, rfl⟩, ⟨t', rfl⟩, t'', rfl⟩ : ∃ u1 u2 u3, us = [u1, u2, u3] ∧ RelV (.int i) u1 ∧ RelV (.int j) u2 ∧ RelV (.int (-1)) u3 := by
    cases r1 with
    | cons r rr => cases rr with
      | cons r' rr => cases rr with
        | cons r'' rr => cases rr; exact ⟨_, _, _, rfl, r, r', r''⟩
  exact call_range_3 (by decide) (down_it I1 q1 q2 q3 q4 q) (.inl (PyProof.noPylong_small (by decide)))
theorem for_down {lo : Int} {n : Nat} {g : TG} {tb : TS} {D : Ends} {σ : St} {H : Hp} (Pv : Nat → St → Hp → Prop) (h0 : Pv 0 σ H)
    (hs : ∀ i σ H, i < n → Pv i σ H → g (.int (lo - i)) σ H fun σ2 H2 => tb { D with nx := Pv (i + 1), ct := Pv (i + 1), bk := D.nx } σ2 H2) (hd : ∀ σ H, Pv n σ H → D.nx σ H) :
    ∃ W : Nat → Nat → St → Hp → Prop, (∃ m, W 0 m σ H) ∧ ∀ i m σ H, W i m σ H →
      ((Itd lo n).stop i H ∧ D.nx σ H) ∨ ((Itd lo n).go i H ∧ ∃ N : St → Hp → Prop, (∀ σ' H', N σ' H' → ∃ m', m' < m ∧ W (i + 1) m' σ' H') ∧ ∀ x H', (Itd lo n).yld i H x H' → g x σ H' fun σ2 H2 => tb { D with nx := N, ct := N, bk := D.nx } σ2 H2) := by
  refine ⟨fun i m σ H => m = n - i ∧ i ≤ n ∧ Pv i σ H, ⟨n, by simp, Nat.zero_le _, h0⟩, ?_⟩
  rintro i m σ H ⟨rfl, hi, p⟩
  by_cases hlt : i < n
  · refine .inr ⟨hlt, Pv (i + 1), fun σ' H' p' => ⟨n - (i + 1), by omega, rfl, hlt, p'⟩, fun x H' y => ?_⟩
    obtain ⟨rfl, rfl⟩ := y
    exact hs i σ _ hlt p
  · have e : i = n := by omega
    subst e
    exact .inl ⟨Nat.le_refl _, hd σ H p⟩
end

/-! ### lists of plain values compared -/
noncomputable def eqL : List V → List V → Bool
  | [], [] => true
  | x :: xs, y :: ys => eqV x y && eqL xs ys
  | _, _ => false
theorem eqL_len : ∀ {xs ys : List V}, xs.length ≠ ys.length → eqL xs ys = false
  | [], [], h => absurd rfl h
  | [], _ :: _, _ => rfl
  | _ :: _, [], _ => rfl
  | x :: xs, y :: ys, h => by
    rw [eqL, eqL_len (xs := xs) (ys := ys) (by simpa using h), Bool.and_false]
theorem eqL_all : ∀ {xs ys : List V}, xs.length = ys.length → (List.range xs.length).all (fun j => eqV (xs.getD j .non) (ys.getD j .non)) = eqL xs ys
  | [], [], _ => rfl
  | x :: xs, y :: ys, h => by
    rw [eqL, ← eqL_all (xs := xs) (ys := ys) (by simpa using h), List.length_cons, List.range_succ_eq_map, List.all_cons, List.all_map]
    rfl
noncomputable def rEqL (K : PySem.W.Frag) (neg : Bool) : R2 := fun x y H Q => ∃ a b xs ys, x = .ref a ∧ y = .ref b ∧ SqL K H a xs ∧ SqL K H b ys ∧ xs.all flatV = true ∧ ys.all flatV = true ∧ Q (.bl (if neg then !eqL xs ys else eqL xs ys)) H
section
variable {X : Cx}
theorem items_eqAt {A : Around} {s : Shared} {xs ys : List V} {us vs : List Value} (r : Vals xs us) (r' : Vals ys vs) (fx : xs.all flatV = true) (fy : ys.all flatV = true) :
    ∀ j (h1 : j < us.toArray.size) (h2 : j < vs.toArray.size), SeqAt.EqAt A s us.toArray[j] vs.toArray[j] (eqV (xs.getD j .non) (ys.getD j .non)) := fun j h1 h2 => by
  have l1 := r.length
  have l2 := r'.length
  have h1' : j < us.length := by simpa using h1
  have h2' : j < vs.length := by simpa using h2
  obtain ⟨u, eu, ru⟩ := r.get (List.getElem?_eq_getElem (show j < xs.length by omega))
  obtain ⟨v, ev, rv⟩ := r'.get (List.getElem?_eq_getElem (show j < ys.length by omega))
  have e1 : us.toArray[j] = u := by
    rw [List.getElem?_eq_getElem h1'] at eu
    simpa using eu
  have e2 : vs.toArray[j] = v := by
    rw [List.getElem?_eq_getElem h2'] at ev
    simpa using ev
  rw [e1, e2]
  have g1 : xs.getD j .non = xs[j]'(by omega) := by rw [List.getD_eq_getElem?_getD, List.getElem?_eq_getElem (show j < xs.length by omega)]; rfl
  have g2 : ys.getD j .non = ys[j]'(by omega) := by rw [List.getD_eq_getElem?_getD, List.getElem?_eq_getElem (show j < ys.length by omega)]; rfl
  rw [g1, g2]
  exact eqAt_V ru rv (List.all_eq_true.mp fx _ (List.getElem_mem _)) (List.all_eq_true.mp fy _ (List.getElem_mem _))
theorem op_eq_list (hu : X.A.units < cLine) : OpR X (compareOp .Eq) (rEqL X.K false) := by
  intro pins s σ H x y v u Q I rx ry h
  obtain ⟨a, b, xs, ys, rfl, rfl, ha, hb, fx, fy, q⟩ := h
  cases rx
  cases ry
  obtain ⟨us, r, pl, hz⟩ := I.list ha
  obtain ⟨vs, r', pl', hz'⟩ := I.list hb
  have l1 := r.length
  have l2 := r'.length
  by_cases hl : xs.length = ys.length
  · refine SeqAt.eq_listAt (e := fun j => eqV (xs.getD j .non) (ys.getD j .non)) pl.isList pl'.isList (by simp; omega) hu (items_eqAt r r' fx fy) ⟨.bl _, H, I, rfl, ?_⟩
    rw [show us.toArray.size = xs.length by simp; omega, eqL_all hl]
    exact q
  · refine SeqAt.eq_list_lengthsAt pl.isList pl'.isList (by simp; omega) hu ⟨.bl false, H, I, rfl, ?_⟩
    rw [← eqL_len hl]
    exact q
end
end L2

set_option Elab.async false
set_option linter.all false
set_option maxRecDepth 100000
set_option maxHeartbeats 4000000
/-! Own rules: what isinstance says of a caught exception; the program's classes of refusals. -/
namespace L2
open PySem PySem.Spec PyProof.Rows PySem.W Builtin Builtin.ObjectAttr Builtin.Getset_descriptor
/-- what of an own class of exceptions is asked -/
noncomputable def excK (K : Frag) (C : Addr) : Bool :=
  findIn K (.ref C) "__getattribute__" == some (some (.builtin "BaseException.__getattribute__")) && findIn K (.ref C) "__getattr__" == some none &&
  findIn K (.ref C) "__class__" == some (some (.builtin "object.__class__")) && specialIn K (.builtin "object.__class__") "__get__" == some (some (.builtin "getset_descriptor.__get__")) &&
  takesIn K (.builtin "object.__class__") == some true && mroIn K C (.type "object") == some true && mroIn K C (.type "BaseException") == some true && (clsIn K C).isSome
structure ExcK (K : Frag) (C : Addr) : Prop where
  ga : findIn K (.ref C) "__getattribute__" = some (some (.builtin "BaseException.__getattribute__"))
  gh : findIn K (.ref C) "__getattr__" = some none
  cl : findIn K (.ref C) "__class__" = some (some (.builtin "object.__class__"))
  gt : specialIn K (.builtin "object.__class__") "__get__" = some (some (.builtin "getset_descriptor.__get__"))
  tk : takesIn K (.builtin "object.__class__") = some true
  mo : mroIn K C (.type "object") = some true
  mb : mroIn K C (.type "BaseException") = some true
  is : (clsIn K C).isSome = true
theorem excK_of {K : Frag} {C : Addr} (h : excK K C = true) : ExcK K C := by
  unfold excK at h
  simp only [Bool.and_eq_true, beq_iff_eq] at h
  obtain ⟨⟨⟨⟨⟨⟨⟨a, b⟩, c⟩, d⟩, e⟩, f⟩, g⟩, i⟩ := h
  exact ⟨a, b, c, d, e, f, g, i⟩
section
variable {K : Frag} {e C : Addr} {M : Model} {h : Heap} {prog : Program} {w : World} {A : Around} {E : Value → Shared → Prop} {s : Shared}
/-- an exception of the class at C lies at e -/
noncomputable def IsX (e C : Addr) (h : Heap) : Prop := ∃ o, h.get? e = some o ∧ o.cls = .ref C ∧ ∃ vs, o.data = .fields vs
theorem IsX.ty (x : IsX e C h) : Looks M h (typeOf (.ref e)) (.ref C) := by
  obtain ⟨o, ho, hc, _⟩ := x
  rw [← hc]
  exact (Looks.ld ho).andThen .now
theorem ExcK.find (F : ExcK K C) (X : K.In h) (x : Value) : Looks M h (Builtin.ObjectAttr.find x (.ref C) "__class__") (.bind (.builtin "getset_descriptor.__get__") (.builtin "object.__class__")) := by
  unfold Builtin.ObjectAttr.find
  refine (looks_findIn X F.cl).andThen ?_
  refine Looks.andThen (a := some (.builtin "getset_descriptor.__get__")) (looks_specialIn X F.gt) ?_
  refine Looks.andThen (a := some (.builtin "getset_descriptor.__get__", .builtin "object.__class__")) ?_ (Looks.tag .now)
  exact (looks_takesIn X F.tk).andThen .now
end
section
variable {K : Frag} {e C : Addr} {M : Model} {h : Heap} {prog : Program} {w : World} {A : Around} {E : Value → Shared → Prop} {s : Shared}
theorem ExcK.got (F : ExcK K C) {R : Result → Shared → Prop} {tp : Value} (X : K.In s.heap) (I : IsX e C s.heap) (q : R (.ok (.ret (.ref C))) s) :
    codeAny (model prog w) A (.call (.builtin "getset_descriptor.__get__") ⟨[.builtin "object.__class__", .ref e, tp], []⟩) R s := by
  obtain ⟨hh, g, dr, t, os⟩ := s
  have L0 := I.ty (M := model prog w)
  have L1 := looks_mroIn (M := model prog w) X F.mo
  refine codeAny_call_builtin KF.slot_gs.plain KF.entry_gs (KF.slot_gs.check _ _ _ _ _ _ _ _ KF.type_class (KF.args_gs _ _ _) ?_)
  unfold Builtin.«getset_descriptor.__get__» descrGet
  rw [dga_obj]
  refine wpAny_bind (wpAny_pure ?_)
  unfold descrGetter descrCheckInstance descrNameAndClass isInstance
  simp only [KF.owner_class]
  repeat lk
  refine ⟨Code.quiet_builtin _ (by decide +kernel), codeAny_builtin KF.entry_class ?_⟩
  unfold Builtin.«object.__class__» shownTypeOf
  repeat lk
  exact q
theorem ExcK.checked (F : ExcK K C) {nv : Value} {Q : Unit → Shared → Prop} (X : K.In s.heap) (I : IsX e C s.heap) (q : Q () s) : wpAny M A (checkBuiltinCall "BaseException.__getattribute__" ⟨[.ref e, nv], []⟩) Q E s := by
  obtain ⟨hh, g, dr, t, os⟩ := s
  have LI : Looks M hh (isInstance (.ref e) (.type "BaseException")) true := I.ty.andThen (looks_mroIn X F.mb)
  have e1 : builtinKind "BaseException.__getattribute__" = some .slot := (by decide +kernel)
  have e2 : splitId "BaseException.__getattribute__" = some (("BaseException", "__getattribute__") : String × String) := by decide +kernel
  have e3 := PySem.F.args_bexc_ga (.ref e) nv
  simp only [checkBuiltinCall, e1, e2]
  refine wpAny_bind (LI.at ?_)
  repeat (first | assumption | wp_step)
theorem ExcK.attr (F : ExcK K C) {tk : Tok} {Q : Value → Shared → Prop} (X : K.In s.heap) (I : IsX e C s.heap) (q : Q (.ref C) s) : wpAny (model prog w) A (getAttrBy (.ref e) (.str "__class__" tk) false false) Q E s := by
  obtain ⟨hh, g, dr, t, os⟩ := s
  have L0 := I.ty (M := model prog w)
  have L1 := looks_findIn (M := model prog w) X F.ga
  have L2 := looks_findIn (M := model prog w) X F.gh
  have L3 := F.find (M := model prog w) X (.ref e)
  have b := PySem.F.attr_ValueError.ga.bind (.ref e)
  unfold getAttrBy
  refine wpAny_holding (wpAny_bind (L0.at (wpAny_bind (L1.at ?_))))
  show wpAny _ _ (getAttrByItsOwn _ _ _ _ _ _) _ _ _
  unfold getAttrByItsOwn hookBefore
  refine wpAny_bind (L2.at ?_)
  refine wpAny_bind (wpAny_attempt (wpAny_holding ?_))
  show wpAny _ _ (boundAndCalled _ _ _) _ _ _
  unfold boundAndCalled
  rw [b]
  refine wpAny_bind (wpAny_pure (wpAny_call (codeAny_call_builtin PySem.F.attr_ValueError.ga.plain PySem.F.entry_bexc_ga (F.checked X I ?_))))
  show wpAny _ _ (Builtin.«object.__getattribute__» ⟨[.ref e, .str "__class__" tk], []⟩) _ _ _
  unfold Builtin.«object.__getattribute__»
  repeat lk
  show wpAny _ _ (run (.call (.builtin "getset_descriptor.__get__") ⟨[.builtin "object.__class__", .ref e, .ref C], []⟩) none) _ _ _
  refine wpAny_run (h := none) (F.got X I ?_)
  show wpAny _ _ (pure (Value.ref C)) _ _ _
  refine wpAny_pure ?_
  show wpAny _ _ (ret (.ref C)) _ _ _
  refine wpAny_pure ?_
  exact handed_on rfl q
theorem kitx_exc (F : ExcK K C) : KitX K (.ref e) (.ref C) (IsX e C) where
  ty := fun _ _ _ I => I.ty
  it := fun _ _ X _ => by
    have hc := F.is
    unfold clsIn at hc
    split at hc
    · rename_i ho
      intro A' Q' E' s' k q
      unfold isType loadHead
      exact wpAny_bind (wpAny_loadPart (k _ _ (X _ _ ho)) (wpAny_pure q))
    · cases hc
  ne := fun h tp dd its n sl X htp => by
    have hc := F.is
    refine Bool.eq_false_iff.mpr fun q => ?_
    have z : C = tp := Value.ref.inj (beq_iff_eq.mp q)
    subst z
    unfold clsIn at hc
    split at hc
    · rename_i ho
      have z := (X _ _ ho).symm.trans htp
      cases z
    · cases hc
  ca := fun {prog w A E Q s} X I q => by
    obtain ⟨hh, g, d, t, os⟩ := s
    unfold getAttr? getAttrBy?
    refine wpAny_bind (wpAny_mkText (wpAny_bind (wpAny_attempt (F.attr (s := ⟨hh, g, d, t + 1, os⟩) X I ?_))))
    exact wpAny_pure q
end
/-- where the classes of refusals lie -/
structure Errs where
  kin : Addr
  size : Addr
  number : Addr
  thing : Addr
  family : Addr
  way : Addr
  apart : Addr
  mark : Addr
  text : Addr
  broken : Addr
noncomputable def errTab (K : Frag) (er : Errs) : Bool :=
  (excIn K er.size veB "ValueError.__new__") &&
  (excK K er.size) &&
  (exmOne K (.ref er.size) (.ref er.kin) == some true) &&
  (kitOne K (.ref er.size) (.type "ValueError") == some true) &&
  (kitOne K (.ref er.size) (.ref er.size) == some true) &&
  (kitOne K (.ref er.size) (.ref er.number) == some false) &&
  (kitOne K (.ref er.size) (.ref er.thing) == some false) &&
  (kitOne K (.ref er.size) (.ref er.family) == some false) &&
  (kitOne K (.ref er.size) (.ref er.way) == some false) &&
  (kitOne K (.ref er.size) (.ref er.apart) == some false) &&
  (kitOne K (.ref er.size) (.ref er.mark) == some false) &&
  (kitOne K (.ref er.size) (.ref er.text) == some false) &&
  (kitOne K (.ref er.size) (.ref er.broken) == some false) &&
  (excIn K er.number veB "ValueError.__new__") &&
  (excK K er.number) &&
  (exmOne K (.ref er.number) (.ref er.kin) == some true) &&
  (kitOne K (.ref er.number) (.type "ValueError") == some true) &&
  (kitOne K (.ref er.number) (.ref er.size) == some false) &&
  (kitOne K (.ref er.number) (.ref er.number) == some true) &&
  (kitOne K (.ref er.number) (.ref er.thing) == some false) &&
  (kitOne K (.ref er.number) (.ref er.family) == some false) &&
  (kitOne K (.ref er.number) (.ref er.way) == some false) &&
  (kitOne K (.ref er.number) (.ref er.apart) == some false) &&
  (kitOne K (.ref er.number) (.ref er.mark) == some false) &&
  (kitOne K (.ref er.number) (.ref er.text) == some false) &&
  (kitOne K (.ref er.number) (.ref er.broken) == some false) &&
  (excIn K er.thing veB "ValueError.__new__") &&
  (excK K er.thing) &&
  (exmOne K (.ref er.thing) (.ref er.kin) == some true) &&
  (kitOne K (.ref er.thing) (.type "ValueError") == some true) &&
  (kitOne K (.ref er.thing) (.ref er.size) == some false) &&
  (kitOne K (.ref er.thing) (.ref er.number) == some false) &&
  (kitOne K (.ref er.thing) (.ref er.thing) == some true) &&
  (kitOne K (.ref er.thing) (.ref er.family) == some false) &&
  (kitOne K (.ref er.thing) (.ref er.way) == some false) &&
  (kitOne K (.ref er.thing) (.ref er.apart) == some false) &&
  (kitOne K (.ref er.thing) (.ref er.mark) == some false) &&
  (kitOne K (.ref er.thing) (.ref er.text) == some false) &&
  (kitOne K (.ref er.thing) (.ref er.broken) == some false)
structure ErrOk (K : Frag) (mg : Str → Option Value) (er : Errs) : Prop where
  m_kin : mg "KinError" = some (.ref er.kin)
  m_size : mg "NoSize" = some (.ref er.size)
  m_number : mg "NoNumber" = some (.ref er.number)
  m_thing : mg "NoThing" = some (.ref er.thing)
  m_family : mg "NoFamily" = some (.ref er.family)
  m_way : mg "NoWay" = some (.ref er.way)
  m_apart : mg "Apart" = some (.ref er.apart)
  m_mark : mg "NoMark" = some (.ref er.mark)
  m_text : mg "NoText" = some (.ref er.text)
  m_broken : mg "Broken" = some (.ref er.broken)
  x_size : excI K er.size
  k_size : ExcK K er.size
  c_size : exmOne K (.ref er.size) (.ref er.kin) = some true
  size_value : kitOne K (.ref er.size) (.type "ValueError") = some true
  size_size : kitOne K (.ref er.size) (.ref er.size) = some true
  size_number : kitOne K (.ref er.size) (.ref er.number) = some false
  size_thing : kitOne K (.ref er.size) (.ref er.thing) = some false
  size_family : kitOne K (.ref er.size) (.ref er.family) = some false
  size_way : kitOne K (.ref er.size) (.ref er.way) = some false
  size_apart : kitOne K (.ref er.size) (.ref er.apart) = some false
  size_mark : kitOne K (.ref er.size) (.ref er.mark) = some false
  size_text : kitOne K (.ref er.size) (.ref er.text) = some false
  size_broken : kitOne K (.ref er.size) (.ref er.broken) = some false
  x_number : excI K er.number
  k_number : ExcK K er.number
  c_number : exmOne K (.ref er.number) (.ref er.kin) = some true
  number_value : kitOne K (.ref er.number) (.type "ValueError") = some true
  number_size : kitOne K (.ref er.number) (.ref er.size) = some false
  number_number : kitOne K (.ref er.number) (.ref er.number) = some true
  number_thing : kitOne K (.ref er.number) (.ref er.thing) = some false
  number_family : kitOne K (.ref er.number) (.ref er.family) = some false
  number_way : kitOne K (.ref er.number) (.ref er.way) = some false
  number_apart : kitOne K (.ref er.number) (.ref er.apart) = some false
  number_mark : kitOne K (.ref er.number) (.ref er.mark) = some false
  number_text : kitOne K (.ref er.number) (.ref er.text) = some false
  number_broken : kitOne K (.ref er.number) (.ref er.broken) = some false
  x_thing : excI K er.thing
  k_thing : ExcK K er.thing
  c_thing : exmOne K (.ref er.thing) (.ref er.kin) = some true
  thing_value : kitOne K (.ref er.thing) (.type "ValueError") = some true
  thing_size : kitOne K (.ref er.thing) (.ref er.size) = some false
  thing_number : kitOne K (.ref er.thing) (.ref er.number) = some false
  thing_thing : kitOne K (.ref er.thing) (.ref er.thing) = some true
  thing_family : kitOne K (.ref er.thing) (.ref er.family) = some false
  thing_way : kitOne K (.ref er.thing) (.ref er.way) = some false
  thing_apart : kitOne K (.ref er.thing) (.ref er.apart) = some false
  thing_mark : kitOne K (.ref er.thing) (.ref er.mark) = some false
  thing_text : kitOne K (.ref er.thing) (.ref er.text) = some false
  thing_broken : kitOne K (.ref er.thing) (.ref er.broken) = some false
theorem errOk {K : Frag} {mg : Str → Option Value} {er : Errs} (h : errTab K er = true) (h_kin : mg "KinError" = some (.ref er.kin)) (h_size : mg "NoSize" = some (.ref er.size)) (h_number : mg "NoNumber" = some (.ref er.number)) (h_thing : mg "NoThing" = some (.ref er.thing)) (h_family : mg "NoFamily" = some (.ref er.family)) (h_way : mg "NoWay" = some (.ref er.way)) (h_apart : mg "Apart" = some (.ref er.apart)) (h_mark : mg "NoMark" = some (.ref er.mark)) (h_text : mg "NoText" = some (.ref er.text)) (h_broken : mg "Broken" = some (.ref er.broken)) : ErrOk K mg er := by
  unfold errTab at h
  simp only [Bool.and_eq_true, beq_iff_eq] at h
  obtain ⟨⟨⟨⟨⟨⟨⟨⟨⟨⟨⟨⟨⟨⟨⟨⟨⟨⟨⟨⟨⟨⟨⟨⟨⟨⟨⟨⟨⟨⟨⟨⟨⟨⟨⟨⟨⟨⟨q0, q1⟩, q2⟩, q3⟩, q4⟩, q5⟩, q6⟩, q7⟩, q8⟩, q9⟩, q10⟩, q11⟩, q12⟩, q13⟩, q14⟩, q15⟩, q16⟩, q17⟩, q18⟩, q19⟩, q20⟩, q21⟩, q22⟩, q23⟩, q24⟩, q25⟩, q26⟩, q27⟩, q28⟩, q29⟩, q30⟩, q31⟩, q32⟩, q33⟩, q34⟩, q35⟩, q36⟩, q37⟩, q38⟩ := h
  exact ⟨h_kin, h_size, h_number, h_thing, h_family, h_way, h_apart, h_mark, h_text, h_broken, q0, excK_of q1, q2, q3, q4, q5, q6, q7, q8, q9, q10, q11, q12, q13, excK_of q14, q15, q16, q17, q18, q19, q20, q21, q22, q23, q24, q25, q26, excK_of q27, q28, q29, q30, q31, q32, q33, q34, q35, q36, q37, q38⟩
section
variable {X : Cx}
theorem call_isinstX : CallR X (.builtin "isinstance") (fun xs H Q => ∃ e c cv C b, xs = [.ref e, c] ∧ (∀ u, RelV c u → u = cv) ∧ H e = some (excO e (.ref C)) ∧ ExcK X.K C ∧ kitOne X.K (.ref C) cv = some b ∧ Q (.bl b) H) := by
  intro pins s σ H xs us Q I r h
  obtain ⟨e, c, cv, C, b, rfl, hcv, he, F, k, q⟩ := h
  obtain ⟨u, v, rfl, r1, r2⟩ := vals2 r
  rw [hcv v r2]
  cases (show u = Value.ref e from r1)
  obtain ⟨ix, _⟩ := (show ObjOk X.prog X.w H s.heap e (excO e (.ref C)) from I.hok e _ he)
  exact kia_one (kitx_exc F) I.kIn ix k (fun z => nomatch z) fun tk => ⟨.bl b, H, I.tok _, rfl, q⟩
theorem relRef {a : Addr} : ∀ u, RelV (.ref a) u → u = Value.ref a := fun _ h => h
theorem hu0 {A : Around} {k : Nat} (hr : Room k A) : A.units < cLine := Nat.lt_of_succ_lt (hu_of hr)
end
theorem bb_ValueError : bootBuiltins "ValueError" = some (.type "ValueError") := by decide +kernel
theorem eqL_one (t : Str) : eqL [.str t] [.str t] = true := by simp [eqL, eqV]
theorem eq_told {K : Frag} {t : Str} {p : Addr} {H1 : Hp} {σ : St} {Q' : VK} (hp : H1 p = some (.lst [.str t])) (q : ∀ H2, Same H1 H2 → Q' (.bl true) H2) :
    tLst (tCons (tC (.str t)) tNil) σ H1 (fun y H2 => rEqL K false (.ref p) y H2 Q') :=
  ⟨sz (n := 1) (by decide), fun l hl => ⟨p, l, _, _, rfl, rfl, SqL.of ((upd_ne (ne_of_none hp hl)).trans hp), SqL.of upd_same, rfl, rfl, by
    show Q' (.bl (eqL [.str t] [.str t])) _
    rw [eqL_one]
    exact q _ (Same.new (Same.refl _) hl _)⟩⟩
end L2
namespace Ck
open PySem L2
end Ck

set_option Elab.async false
set_option linter.all false
set_option maxRecDepth 100000
set_option maxHeartbeats 4000000
/-! Own rules: methods with all that a caller asks of them, tried ones too; except without a name. -/
namespace L2
open PySem PySem.Spec PyProof.Rows
/-- a method of the text (or any def that is not called by its name), its promise, and how it is called -/
structure MDef (P : Program) (w : World) (K : PySem.W.Frag) (mg : Str → Option Value) (base : Heap) (ps : List Str) (k : Nat) (sp : Sp) (f : Addr) (fd : FuncData) : Prop where
  ok : FnOk P w K mg base (CX1 P w) k f fd ps sp
  b : Binds K fd ps []
section
variable {X : Cx} {C f : Addr} {fd : FuncData} {ps : List Str} {sp : Sp} {m : Str} {apos pos : Pos} {o e : Expr} {es : List Expr} {ta : TE} {t : TA} {j k : Nat}
theorem pmeth {pl : Sem Bool} (ho : PE X o ta) (c : Cls X.K C) (hm : Meth X.K C m f) (D : MDef X.prog X.w X.K X.mg X.base ps j sp f fd) (hr : Room k X.A) (ha : PA X (e :: es) t) (hjk : j ≤ k := by decide)
    (hst : starEach (e :: es) X.env = (false, eval e X.env) :: starEach es X.env := by rfl) (hpl : (backTo pos (starEach es X.env)).any (·.1) = false := by rfl)
    (ht : eval (.Call (.Attribute o m apos) (e :: es) [] pos) X.env = (do
      let ov ← eval o X.env
      standAt apos.atName
      let (f, first) ← holding [ov] (getMethod ov m pl)
      callWith pos f first (backTo pos (starEach (e :: es) X.env)) (backToKw pos (keywordEach [] X.env))) := by rfl) :
    PE X (.Call (.Attribute o m apos) (e :: es) [] pos) (tMeth C m sp [] E0 ta t) := pe_meth ho c hm D.ok (hr.mono hjk) D.b .nil passN ha hst hpl ht
theorem pmeth0 {pl : Sem Bool} (ho : PE X o ta) (c : Cls X.K C) (hm : Meth X.K C m f) (D : MDef X.prog X.w X.K X.mg X.base ps j sp f fd) (hr : Room k X.A) (hjk : j ≤ k := by decide)
    (ht : eval (.Call (.Attribute o m apos) [] [] pos) X.env = (do
      let ov ← eval o X.env
      standAt apos.atName
      let (f, first) ← holding [ov] (getMethod ov m pl)
      callWith pos f first (backTo pos (starEach [] X.env)) (backToKw pos (keywordEach [] X.env))) := by rfl) :
    PE X (.Call (.Attribute o m apos) [] [] pos) (tMeth C m sp [] E0 ta tNil) := pe_meth0 ho c hm D.ok (hr.mono hjk) D.b .nil passN ht
theorem pmethT {E : XK} (T : Thr X E) {pl : Sem Bool} (ho : PE X o ta) (c : Cls X.K C) (hm : Meth X.K C m f) (D : MDef X.prog X.w X.K X.mg X.base ps j sp f fd) (hr : Room k X.A) (ha : PA X (e :: es) t) (hjk : j ≤ k := by decide)
    (hst : starEach (e :: es) X.env = (false, eval e X.env) :: starEach es X.env := by rfl) (hpl : (backTo pos (starEach es X.env)).any (·.1) = false := by rfl)
    (ht : eval (.Call (.Attribute o m apos) (e :: es) [] pos) X.env = (do
      let ov ← eval o X.env
      standAt apos.atName
      let (f, first) ← holding [ov] (getMethod ov m pl)
      callWith pos f first (backTo pos (starEach (e :: es) X.env)) (backToKw pos (keywordEach [] X.env))) := by rfl) :
    PE X (.Call (.Attribute o m apos) (e :: es) [] pos) (tMeth C m sp [] E ta t) := pe_meth ho c hm D.ok (hr.mono hjk) D.b .nil T.pass ha hst hpl ht
end
/-! ### C.m(self, ..): a base class's method by the class's name -/
structure ClsM (K : PySem.W.Frag) (C : Addr) (m : Str) (f : Addr) : Prop where
  hg : PySem.W.specialIn K (.ref C) "__getattribute__" = some (some (.builtin "type.__getattribute__"))
  rd : PySem.W.readsIn K C (.type "type") = true
  at_ : PySem.W.findCls K (.ref C) (.type "type") m = some (.val (.ref f))
  kp : PySem.W.keepIn K (.ref f) = true
section
variable {X : Cx} {C f : Addr} {fd : FuncData} {ps : List Str} {sp : Sp} {x m : Str} {p apos pos : Pos} {e : Expr} {es : List Expr} {t : TA} {j k : Nat}
theorem pcls {pl : Sem Bool} (hm : X.mg x = some (.ref C)) (M : ClsM X.K C m f) (D : MDef X.prog X.w X.K X.mg X.base ps j sp f fd) (hr : Room k X.A) (ha : PA X (e :: es) t) (hjk : j ≤ k := by decide) (hg : Gl X x := by rfl)
    (hdb : (x == ("__debug__" : Str)) = false := by decide) (hst : starEach (e :: es) X.env = (false, eval e X.env) :: starEach es X.env := by rfl) (hpl : (backTo pos (starEach es X.env)).any (·.1) = false := by rfl)
    (ht : eval (.Call (.Attribute (.Name x p) m apos) (e :: es) [] pos) X.env = (do
      let ov ← eval (.Name x p) X.env
      standAt apos.atName
      let (f, first) ← holding [ov] (getMethod ov m pl)
      callWith pos f first (backTo pos (starEach (e :: es) X.env)) (backToKw pos (keywordEach [] X.env))) := by rfl) :
    PE X (.Call (.Attribute (.Name x p) m apos) (e :: es) [] pos) (tCall sp [] E0 t) := by
  intro pins s σ H Q I h
  refine PySem.W.methodCall_KW (pl := pl) (ld_glob I hg hm ?_ hdb) ht
  refine PySem.W.method_cls I.kIn M.hg (PySem.W.cls_value I.kIn M.rd M.at_ rfl ?_)
  have I1 : Inv X pins σ H { s with toks := s.toks + 1 } := I.tok _
  refine PySem.W.callWith_K (first := []) (h₀ := X.base) I.ok.mod.kin M.kp (thn (ha pos pins _ σ H _ I1 h) fun us s2 ⟨vs, H2, I2, r, q2⟩ => ⟨I2.kIn, ?_⟩) hst hpl
  exact run_fn D.ok (hr.mono hjk) D.b .nil passN I2 r q2
end

section
variable {X : Cx} {C f : Addr} {fd : FuncData} {ps : List Str} {sp : Sp} {x : Str} {p pos : Pos} {j k : Nat}
/-- C(): a new object -/
theorem pmake0 (M : Mk X.K C f) (hm : X.mg x = some (.ref C)) (D : MDef X.prog X.w X.K X.mg X.base ps j sp f fd) (hr : Room k X.A) (hjk : j + 1 ≤ k := by decide) (hg : Gl X x := by rfl) (hdb : (x == ("__debug__" : Str)) = false := by decide) :
    PE X (.Call (.Name x p) [] [] pos) (tMake C sp [] E0 tNil) := pe_make0 M D.ok (hr.mono hjk) hg hm D.b .nil passN hdb
end
end L2
namespace L2
open PySem
/-! ### a def that calls itself: by a number that falls -/
noncomputable def below (N : Nat) (sp : Nat → Sp) : Sp := fun vs H Q E => ∃ m, m < N ∧ sp m vs H Q E
theorem below_ok {P : Program} {w : World} {K : PySem.W.Frag} {mg : Str → Option Value} {base : Heap} {CX : CXT} {L N : Nat} {f : Addr} {fd : FuncData} {ps : List Str} {sp : Nat → Sp} (h : ∀ m, m < N → FnOk P w K mg base CX (L + m + 1) f fd ps (sp m)) :
    FnOk P w K mg base CX (L + N) f fd ps (below N sp) :=
  ⟨fun vs H Q E ⟨m, hm, q⟩ => (h m hm).len vs H Q E q, fun A outer s H args us vs Q E hr he hb hv ⟨m, hm, q⟩ => (h m hm).run A outer s H args us vs Q E (hr.mono (by omega)) he hb hv q⟩
theorem rec_ok {P : Program} {w : World} {K : PySem.W.Frag} {mg : Str → Option Value} {base : Heap} {CX : CXT} {L : Nat} {f : Addr} {fd : FuncData} {ps : List Str} {sp : Nat → Sp}
    (h : ∀ n, (∀ m, m < n → FnOk P w K mg base CX (L + m + 1) f fd ps (sp m)) → FnOk P w K mg base CX (L + n + 1) f fd ps (sp n)) : ∀ n, FnOk P w K mg base CX (L + n + 1) f fd ps (sp n) := fun n =>
  Nat.strongRecOn n fun n ih => h n ih
end L2

set_option Elab.async false
set_option linter.all false
set_option maxRecDepth 100000
set_option maxHeartbeats 4000000
/-! Own rules: == and != of lists and tuples within one another; is True, is False. -/
namespace L2
open PySem PySem.Spec PyProof.Rows
/-- x == y is b, at most n deep -/
inductive EqD (K : PySem.W.Frag) (H : Hp) : Nat → V → V → Bool → Prop
  | flat {n : Nat} {x y : V} (fx : flatV x = true) (fy : flatV y = true) : EqD K H n x y (eqV x y)
  | same {n : Nat} {a : Addr} : EqD K H n (.ref a) (.ref a) true
  | lst {n : Nat} {a b : Addr} {xs ys : List V} {e : Nat → Bool} (ne : a ≠ b) (ha : SqL K H a xs) (hb : SqL K H b ys) (hl : xs.length = ys.length)
      (hi : ∀ j x y, xs[j]? = some x → ys[j]? = some y → EqD K H n x y (e j)) : EqD K H (n + 1) (.ref a) (.ref b) ((List.range xs.length).all e)
  | lstN {n : Nat} {a b : Addr} {xs ys : List V} (ne : a ≠ b) (ha : SqL K H a xs) (hb : SqL K H b ys) (hl : xs.length ≠ ys.length) : EqD K H (n + 1) (.ref a) (.ref b) false
  | tup {n : Nat} {a b : Addr} {xs ys : List V} {e : Nat → Bool} (ne : a ≠ b) (ha : SqT K H a xs) (hb : SqT K H b ys)
      (hi : ∀ j x y, xs[j]? = some x → ys[j]? = some y → EqD K H n x y (e j)) : EqD K H (n + 1) (.ref a) (.ref b) ((List.range (min xs.length ys.length)).all e && xs.length == ys.length)
theorem EqD.lstT {K : PySem.W.Frag} {H : Hp} {n : Nat} {a b : Addr} {xs ys : List V} (ne : a ≠ b) (ha : SqL K H a xs) (hb : SqL K H b ys) (hl : xs.length = ys.length) (hi : ∀ (j : Nat) (x y : V), xs[j]? = some x → ys[j]? = some y → EqD K H n x y true) : EqD K H (n + 1) (.ref a) (.ref b) true := by
  have h := EqD.lst (e := fun _ => true) ne ha hb hl hi
  have e (k : Nat) : (List.range k).all (fun _ => true) = true := List.all_eq_true.mpr fun _ _ => rfl
  rw [e] at h
  exact h
section
variable {X : Cx} {pins : List (Addr × Obj)} {σ : St} {H : Hp} {s : Shared}
theorem at_get {xs : List V} {us : List Value} (r : Vals xs us) {j : Nat} (h : j < us.toArray.size) : ∃ x, xs[j]? = some x ∧ RelV x us.toArray[j] := by
  have h' : j < us.length := by simpa using h
  have hx : j < xs.length := by rw [r.length]; exact h'
  obtain ⟨u, eu, ru⟩ := r.get (List.getElem?_eq_getElem hx)
  rw [List.getElem?_eq_getElem h'] at eu
  exact ⟨_, List.getElem?_eq_getElem hx, by
    have : us.toArray[j] = u := by simpa using eu
    rw [this]; exact ru⟩
theorem EqD.at_ {n : Nat} {x y : V} {b : Bool} (d : EqD X.K H n x y b) : ∀ {A : Around} {u v : Value}, A.units + n < cLine → Inv X pins σ H s → RelV x u → RelV y v → SeqAt.EqAt A s u v b := by
  induction d with
  | flat fx fy => intro A u v _ I ru rv; exact eqAt_V ru rv fx fy
  | same =>
    intro A u v _ I ru rv
    cases (show u = Value.ref _ from ru)
    cases (show v = Value.ref _ from rv)
    exact SeqAt.EqAt.same _
  | @lst n a b xs ys e ne ha hb hl hi ih =>
    intro A u v hu I ru rv
    cases (show u = Value.ref _ from ru)
    cases (show v = Value.ref _ from rv)
    obtain ⟨us, r, pl, _⟩ := I.list ha
    obtain ⟨vs, r', pl', _⟩ := I.list hb
    have l1 := r.length
    have l2 := r'.length
    have z := SeqAt.RcAt.lists (A := A) (e := e) pl.isList pl'.isList (by simp; omega) (by omega) fun j h1 h2 => by
      obtain ⟨x, ex, rx⟩ := at_get r h1
      obtain ⟨y, ey, ry⟩ := at_get r' h2
      exact ih j x y ex ey (A := A.in1) (by show A.units + 1 + n < cLine; omega) I rx ry
    rw [show us.toArray.size = xs.length by simp; omega] at z
    exact .of_refs ne z
  | @lstN n a b xs ys ne ha hb hl =>
    intro A u v hu I ru rv
    cases (show u = Value.ref _ from ru)
    cases (show v = Value.ref _ from rv)
    obtain ⟨us, r, pl, _⟩ := I.list ha
    obtain ⟨vs, r', pl', _⟩ := I.list hb
    have l1 := r.length
    have l2 := r'.length
    exact .of_refs ne (SeqAt.RcAt.lists_lengths pl.isList pl'.isList (by simp; omega) (by omega))
  | @tup n a b xs ys e ne ha hb hi ih =>
    intro A u v hu I ru rv
    cases (show u = Value.ref _ from ru)
    cases (show v = Value.ref _ from rv)
    obtain ⟨us, r, pl, _⟩ := I.tuple ha
    obtain ⟨vs, r', pl', _⟩ := I.tuple hb
    have l1 := r.length
    have l2 := r'.length
    have z := SeqAt.RcAt.tuples (A := A) (e := e) pl pl' (by omega) fun j h1 h2 => by
      obtain ⟨x, ex, rx⟩ := at_get r h1
      obtain ⟨y, ey, ry⟩ := at_get r' h2
      exact ih j x y ex ey (A := A.in1) (by show A.units + 1 + n < cLine; omega) I rx ry
    rw [show us.toArray.size = xs.length by simp; omega, show vs.toArray.size = ys.length by simp; omega] at z
    exact .of_refs ne z
/-- == by a derivation; for unlike objects (top level) -/
noncomputable def rEqD (K : PySem.W.Frag) (neg : Bool) : R2 := fun x y H Q => ∃ n b, n ≤ 100 ∧ EqD K H n x y b ∧ (∃ a c, x = .ref a ∧ y = .ref c ∧ a ≠ c) ∧ Q (.bl (if neg then !b else b)) H
theorem op_eqD (hu : X.A.units + 100 < cLine) : OpR X (compareOp .Eq) (rEqD X.K false) := by
  intro pins s σ H x y u v Q I ru rv h
  obtain ⟨n, b, hn, d, ⟨a, c, rfl, rfl, hne⟩, q⟩ := h
  cases (show u = Value.ref _ from ru)
  cases (show v = Value.ref _ from rv)
  cases d with
  | flat fx _ => cases fx
  | same => exact absurd rfl hne
  | @lst n _ _ xs ys e ne ha hb hl hi =>
    obtain ⟨us, r, pl, _⟩ := I.list ha
    obtain ⟨vs, r', pl', _⟩ := I.list hb
    have l1 := r.length
    have l2 := r'.length
    refine SeqAt.eq_listAt (e := e) pl.isList pl'.isList (by simp; omega) (by omega) (fun j h1 h2 => ?_) ⟨.bl _, H, I, rfl, ?_⟩
    · obtain ⟨x, ex, rx⟩ := at_get r h1
      obtain ⟨y, ey, ry⟩ := at_get r' h2
      exact (hi j x y ex ey).at_ (A := X.A.in1) (by show X.A.units + 1 + n < cLine; omega) I rx ry
    · rw [show us.toArray.size = xs.length by simp; omega]; exact q
  | @lstN n _ _ xs ys ne ha hb hl =>
    obtain ⟨us, r, pl, _⟩ := I.list ha
    obtain ⟨vs, r', pl', _⟩ := I.list hb
    have l1 := r.length
    have l2 := r'.length
    exact SeqAt.eq_list_lengthsAt pl.isList pl'.isList (by simp; omega) (by omega) ⟨.bl false, H, I, rfl, q⟩
  | @tup n _ _ xs ys e ne ha hb hi =>
    obtain ⟨us, r, pl, _⟩ := I.tuple ha
    obtain ⟨vs, r', pl', _⟩ := I.tuple hb
    have l1 := r.length
    have l2 := r'.length
    refine SeqAt.eq_tupleAt (e := e) pl pl' (by omega) (fun j h1 h2 => ?_) ⟨.bl _, H, I, rfl, ?_⟩
    · obtain ⟨x, ex, rx⟩ := at_get r h1
      obtain ⟨y, ey, ry⟩ := at_get r' h2
      exact (hi j x y ex ey).at_ (A := X.A.in1) (by show X.A.units + 1 + n < cLine; omega) I rx ry
    · rw [show us.toArray.size = xs.length by simp; omega, show vs.toArray.size = ys.length by simp; omega]; exact q
theorem op_neD (hu : X.A.units + 100 < cLine) : OpR X (compareOp .NotEq) (rEqD X.K true) := by
  intro pins s σ H x y u v Q I ru rv h
  obtain ⟨n, b, hn, d, ⟨a, c, rfl, rfl, hne⟩, q⟩ := h
  cases (show u = Value.ref _ from ru)
  cases (show v = Value.ref _ from rv)
  cases d with
  | flat fx _ => cases fx
  | same => exact absurd rfl hne
  | @lst n _ _ xs ys e ne ha hb hl hi =>
    obtain ⟨us, r, pl, _⟩ := I.list ha
    obtain ⟨vs, r', pl', _⟩ := I.list hb
    have l1 := r.length
    have l2 := r'.length
    refine SeqAt.RcNeAt.lists (e := e) pl.isList pl'.isList (by simp; omega) (by omega) (fun j h1 h2 => ?_) _ _ _ _ ⟨.bl _, H, I, rfl, ?_⟩
    · obtain ⟨x, ex, rx⟩ := at_get r h1
      obtain ⟨y, ey, ry⟩ := at_get r' h2
      exact (hi j x y ex ey).at_ (A := X.A.in1) (by show X.A.units + 1 + n < cLine; omega) I rx ry
    · rw [show us.toArray.size = xs.length by simp; omega]; exact q
  | @lstN n _ _ xs ys ne ha hb hl =>
    obtain ⟨us, r, pl, _⟩ := I.list ha
    obtain ⟨vs, r', pl', _⟩ := I.list hb
    have l1 := r.length
    have l2 := r'.length
    exact SeqAt.RcNeAt.lists_lengths pl.isList pl'.isList (by simp; omega) (by omega) _ _ _ _ ⟨.bl true, H, I, rfl, q⟩
  | @tup n _ _ xs ys e ne ha hb hi =>
    obtain ⟨us, r, pl, _⟩ := I.tuple ha
    obtain ⟨vs, r', pl', _⟩ := I.tuple hb
    have l1 := r.length
    have l2 := r'.length
    refine SeqAt.RcNeAt.tuples (e := e) pl pl' (by omega) (fun j h1 h2 => ?_) _ _ _ _ ⟨.bl _, H, I, rfl, ?_⟩
    · obtain ⟨x, ex, rx⟩ := at_get r h1
      obtain ⟨y, ey, ry⟩ := at_get r' h2
      exact (hi j x y ex ey).at_ (A := X.A.in1) (by show X.A.units + 1 + n < cLine; omega) I rx ry
    · rw [show us.toArray.size = xs.length by simp; omega, show vs.toArray.size = ys.length by simp; omega]; exact q
theorem hu100 {A : Around} {k : Nat} (hr : Room k A) : A.units + 100 < cLine := Nat.lt_of_le_of_lt (by omega) hr.un
end
end L2

set_option Elab.async false
set_option linter.all false
set_option maxRecDepth 100000
set_option maxHeartbeats 4000000
/-! Own rules: list.insert, list.remove, min and max of a list of ints, enumerate. -/
namespace L2
open PySem PySem.Spec PyProof.Rows
section
variable {X : Cx}
end
/-! ### enumerate -/
section
variable {X : Cx} {pins : List (Addr × Obj)} {σ : St} {H : Hp} {s : Shared} {h' : Heap}
theorem Inv.trackO {e : Addr} {o' : HO} (I : Inv X pins σ H s) (o : Ours X pins H e) (new : ObjOk X.prog X.w (upd H e o') s.heap e o') : Inv X pins σ (upd H e o') s := by
  have ne : ∀ b u, H b = some u → b ≠ e := fun b u q z => by rw [z, o.free] at q; cases q
  refine ⟨I.ok, I.os, I.bare, ⟨I.base.keep, I.base.slot, fun b ob q n hx => ?_, I.base.there, fun b xs q => ?_, fun b ob u q => ?_, fun b ps q => ?_⟩, I.loc, I.cell, ?_, fun x c q => ?_, fun p hp => ?_, fun b u q => ?_, I.len⟩
  · rw [upd_ne (fun z => by rw [z, o.new] at q; cases q)]; exact I.base.free b ob q n hx
  · have := I.base.tups b xs q
    rw [upd_ne (ne _ _ this)]; exact this
  · have := I.base.frzs b ob u q
    rw [upd_ne (ne _ _ this)]; exact this
  · obtain ⟨m, z⟩ := I.base.tbls b ps q
    exact ⟨m, by rw [upd_ne (ne _ _ z)]; exact z⟩
  · rw [upd_ne (Ne.symm o.loc)]; exact I.free
  · rw [upd_ne (o.cell x c q)]; exact I.freeC x c q
  · obtain ⟨z, n, r⟩ := I.pin p hp
    exact ⟨z, by rw [upd_ne (o.pin p hp)]; exact n, r⟩
  · by_cases z : b = e
    · subst z; rw [upd_same] at q; cases q; exact new
    · rw [upd_ne z] at q
      exact (I.hok b u q).stay (fun _ _ _ x => x) (fun c x => by rw [upd_ne (ne _ _ x)]; exact x) fun c xs x => by rw [upd_ne (ne _ _ x)]; exact x
theorem Inv.turned2 {t' : Nat} {e it : Addr} (I : Inv X pins σ H s) (k : ∀ b o, b ≠ e → b ≠ it → s.heap.get? b = some o → h'.get? b = some o) (he : ∃ o, h'.get? e = some o) (hi : ∃ o, h'.get? it = some o) (f1 : FpOk X pins H e) (f2 : FpOk X pins H it) :
    Inv X pins σ H { s with heap := h', toks := t' } := by
  have nit : ∀ b u, H b = some u → b ≠ e ∧ b ≠ it := fun b u q => ⟨fun z => (by rw [z, f1.1] at q; cases q), fun z => (by rw [z, f2.1] at q; cases q)⟩
  have sp : ∀ b, b ∉ [e, it] → b ≠ e ∧ b ≠ it := fun b hb => ⟨fun z => hb (by simp [z]), fun z => hb (by simp [z])⟩
  refine I.step (g' := s.gens) (d' := s.drawn) (ch := [e, it]) (fun b hb => ?_) (fun b o _ _ hc q _ => k b o (sp b hc).1 (sp b hc).2 q) (fun b o _ _ hc q _ => ⟨o.slots, k b o (sp b hc).1 (sp b hc).2 q⟩) (fun _ _ _ _ n => n)
    (fun b o hc q => ⟨o, k b o (sp b hc).1 (sp b hc).2 q⟩) (fun _ _ q => q) (fun _ _ _ q => q) (fun b ps q => ⟨#[], by rw [q]; simp⟩) (fun m hm => ?_) (fun b u q => ?_) I.bare
  · rcases List.mem_cons.mp hb with z | z
    · rw [z]; exact ⟨f1.2.2.2.1, f1.2.1, f1.2.2.2.2.1, f1.2.2.2.2.2⟩
    · rw [show b = it by simpa using z]; exact ⟨f2.2.2.2.1, f2.2.1, f2.2.2.2.2.1, f2.2.2.2.2.2⟩
  · obtain ⟨o, es, ep, ho, r⟩ := hm
    exact ⟨o, es, ep, k _ o (Ne.symm f1.2.1) (Ne.symm f2.2.1) ho, r⟩
  · refine (I.hok b u q).stay (fun c v hc q' => ?_) (fun _ q => q) fun _ _ q => q
    have : c ≠ e ∧ c ≠ it := by
      rcases hc with z | z
      · rw [z]; exact nit b u q
      · exact nit c _ z
    exact k c v this.1 this.2 q'
end
/-- enumerate of the list at l -/
noncomputable def Ite (K : PySem.W.Frag) (l : Addr) : It :=
  ⟨fun i H => ∃ xs x, SqL K H l xs ∧ xs[i]? = some x, fun i H v H' => ∃ T x, H T = none ∧ (∀ xs, SqL K H l xs → xs[i]? = some x) ∧ v = .ref T ∧ H' = upd H T (.tup [.int i, x]), fun i H => ∃ xs, SqL K H l xs ∧ xs.length ≤ i⟩
theorem turn_enum {P : Program} {w : World} {K : PySem.W.Frag} {elts : List Expr} {k0 : Nat} {tp : Pos} (e it l : Addr) (hei : e ≠ it) :
    Turn P w K (.Tuple elts k0 tp) (Ite K l) [e, it] e (fun i h => (∃ old, IsEnum h e it i old) ∧ h.IsListIter it l i) where
  mem := by simp
  obj := fun i h st b hb => by
    obtain ⟨⟨old, he⟩, o, ho, c, d⟩ := st
    rcases List.mem_cons.mp hb with z | z
    · rw [z]
      exact ⟨_, he, fun v z => by
        have z' : Data.fields _ = Data.cell v := z
        cases z'⟩
    · rw [show b = it by simpa using z]
      exact ⟨o, ho, fun v z => by rw [d] at z; cases z⟩
  keep := fun i h h' st k => ⟨let ⟨old, he⟩ := st.1; ⟨old, k e (by simp) _ he⟩, st.2.at fun o q => k it (by simp) o q⟩
  item := by
    intro X hP hw hK hc i pins s σ H E I hf st hg
    subst hP hw hK
    obtain ⟨xs, x, hq, hx⟩ := hg
    obtain ⟨its, rv, p, hz⟩ := I.list hq
    obtain ⟨u, hu, ru⟩ := rv.get hx
    obtain ⟨⟨old, he⟩, hit⟩ := st
    have fe := hf e (by simp)
    have fi := hf it (by simp)
    refine wpAny_pyNext_enum_item he hit p.isList (x := u) (by simpa using hu) hei fun h1 ho hit1 hT hsz hk => ?_
    refine ⟨_, rfl, wpAny_letOwnedTupleGo_enum ho fun h2 he2 sb => ?_⟩
    have nT : s.heap.get? s.heap.objs.size = none := Heap.get?_none_of_le (Nat.le_refl _)
    have elt : e < s.heap.objs.size := Heap.lt_size he
    have ilt : it < s.heap.objs.size := by obtain ⟨_, q, _⟩ := hit; exact Heap.lt_size q
    have hit2 : h2.IsListIter it l (i + 1) := hit1.at fun o q => (sb.2 it (Ne.symm hei)).trans q
    have k2 : ∀ b o, b ≠ e → b ≠ it → s.heap.get? b = some o → h2.get? b = some o := fun b o b1 b2 q => (sb.2 b b1).trans (hk b o b1 b2 q)
    have I2 : Inv X pins σ H { s with heap := h2, toks := s.toks + 1 } := I.turned2 k2 ⟨_, he2⟩ (by obtain ⟨o, q, _⟩ := hit2; exact ⟨o, q⟩) fe fi
    have oT : Ours X pins H s.heap.objs.size := by
      have fT : FpOk X pins H s.heap.objs.size := I.fpOk (Nat.le_refl _) (I.hok.fresh (Nat.le_refl _))
      exact ⟨Heap.get?_none_of_le I.sz, fT.1, fT.2.1, fT.2.2.2.2.1, fT.2.2.2.2.2⟩
    have hT2 : h2.get? s.heap.objs.size = some { cls := .type "tuple", data := .seq #[.int i s.toks, u] } := (sb.2 _ (Nat.ne_of_gt elt)).trans hT
    have I3 := I2.trackO (o' := .tup [.int i, x]) oT ⟨sz (n := 2) (by decide), [.int i s.toks, u], .cons ⟨_, rfl⟩ (.cons ru .nil), _, hT2, rfl, _, rfl⟩
    refine ⟨.ref s.heap.objs.size, _, I3, rfl, ⟨_, x, oT.free, fun ys hy => by rw [I.list_inj hy hq]; exact hx, rfl, rfl⟩, ⟨⟨_, by simpa using he2⟩, hit2⟩, fun b hb => ?_⟩
    rcases List.mem_cons.mp hb with z | z
    · rw [z, upd_ne (Nat.ne_of_lt elt)]; exact fe.1
    · rw [show b = it by simpa using z, upd_ne (Nat.ne_of_lt ilt)]; exact fi.1
  done := by
    intro X hP hw hK hc i pins s σ H E I hf st hg
    subst hP hw hK
    obtain ⟨xs, hq, hx⟩ := hg
    obtain ⟨its, rv, p, hz⟩ := I.list hq
    obtain ⟨⟨old, he⟩, hit⟩ := st
    have hl := rv.length
    obtain ⟨f0, f1, f2, f3, f4, f5⟩ := hf it (by simp)
    refine wpAny_pyNext_enum_end (I.ok.hd hc) he hit p.isList (Array.getElem?_eq_none (by simp; omega)) fun h2 eb => ⟨rfl, ?_⟩
    exact I.turned (t' := s.toks) (fun b o hb q => eb b o hb q) f0 f1 f3 f4 f5
  self := fun _ _ _ _ _ st h => by
    obtain ⟨⟨old, he⟩, _⟩ := st
    exact wpAny_pyIter_enum he h
noncomputable def iEnum (K : PySem.W.Frag) (ta : TA) : TI := fun σ H R => ta σ H fun vs H1 => ∃ l, vs = [.ref l] ∧ (∃ xs, SqL K H1 l xs) ∧ R (Ite K l) H1
section
variable {X : Cx}
theorem pi_enum {elts : List Expr} {k0 : Nat} {tp : Pos} {a : Expr} {ta : TA} {p pos : Pos} (hg : Gl X "enumerate") (hm : X.mg "enumerate" = none) (ha : PA X [a] ta) (hs : starEach [a] X.env = [(false, eval a X.env)] := by rfl) :
    PI X (.Tuple elts k0 tp) (.Call (.Name "enumerate" p) [a] [] pos) (iEnum X.K ta) := by
  intro pins s σ H R I h
  refine Call_ (ld_blt I hg hm boot_enumerate (PyProof.Rows.callWith_type1 (thn (ha pos pins s σ H _ I h) fun us s1 ⟨vs, H1, I1, r1, q1⟩ => ?_) hs rfl))
  obtain ⟨l, rfl, ⟨xs, hq⟩, q⟩ := q1
  obtain ⟨u, rfl, ru⟩ := vals1 r1
  cases ru
  obtain ⟨its, rv, pl, hz⟩ := I1.list hq
  refine call_enumerate_list pl.isList fun h2 he hit hsz hk => ?_
  have I2 : Inv X pins σ H1 { s1 with heap := h2 } := I1.kept (t' := s1.toks) hk
  refine wpAny_pyIter_enum he ⟨_, [s1.heap.objs.size + 1, s1.heap.objs.size], _, _, H1, rfl, I2, turn_enum _ s1.heap.objs.size l (Nat.succ_ne_self _), ⟨⟨_, he⟩, hit⟩, fun b hb => ?_, q⟩
  rcases List.mem_cons.mp hb with z | z
  · rw [z]; exact I1.fpOk (Nat.le_succ _) (I1.hok.fresh (Nat.le_succ _))
  · rw [show b = s1.heap.objs.size by simpa using z]; exact I1.fpOk (Nat.le_refl _) (I1.hok.fresh (Nat.le_refl _))
/-- for k, x in enumerate(xs): the list stays as it is -/
theorem for_enum {K : PySem.W.Frag} {l : Addr} {xs : List V} {g : TG} {tb : TS} {D : Ends} {σ : St} {H : Hp} (Pv : Nat → St → Hp → Prop) (h0 : Pv 0 σ H) (hl : ∀ i σ H, i ≤ xs.length → Pv i σ H → SqL K H l xs)
    (hs : ∀ i x σ H T, xs[i]? = some x → Pv i σ H → H T = none → g (.ref T) σ (upd H T (.tup [.int i, x])) fun σ2 H2 => tb { D with nx := Pv (i + 1), ct := Pv (i + 1), bk := D.nx } σ2 H2) (hd : ∀ σ H, Pv xs.length σ H → D.nx σ H) :
    ∃ W : Nat → Nat → St → Hp → Prop, (∃ m, W 0 m σ H) ∧ ∀ i m σ H, W i m σ H →
      ((Ite K l).stop i H ∧ D.nx σ H) ∨ ((Ite K l).go i H ∧ ∃ N : St → Hp → Prop, (∀ σ' H', N σ' H' → ∃ m', m' < m ∧ W (i + 1) m' σ' H') ∧ ∀ x H', (Ite K l).yld i H x H' → g x σ H' fun σ2 H2 => tb { D with nx := N, ct := N, bk := D.nx } σ2 H2) := by
  refine ⟨fun i m σ H => m = xs.length - i ∧ i ≤ xs.length ∧ Pv i σ H, ⟨xs.length, by simp, Nat.zero_le _, h0⟩, ?_⟩
  rintro i m σ H ⟨rfl, hi, p⟩
  have q := hl i σ H hi p
  by_cases hlt : i < xs.length
  · refine .inr ⟨⟨xs, _, q, List.getElem?_eq_getElem hlt⟩, Pv (i + 1), fun σ' H' p' => ⟨xs.length - (i + 1), by omega, rfl, hlt, p'⟩, fun v H' y => ?_⟩
    obtain ⟨T, x, nT, hx, rfl, rfl⟩ := y
    exact hs i x σ H T (hx xs q) p nT
  · have e : i = xs.length := by omega
    subst e
    exact .inl ⟨⟨xs, q, Nat.le_refl _⟩, hd σ H p⟩
end
end L2

set_option Elab.async false
set_option linter.all false
set_option maxRecDepth 100000
set_option maxHeartbeats 4000000
/-! Lists and tuples of ints within one another, as they lie in the heap. -/
namespace Ck
open PySem L2
inductive Tree where
  | int (i : Int)
  | lst (l : List Tree)
  | tup (l : List Tree)
mutual
noncomputable def Rep (H : Hp) : Tree → V → Prop
  | .int i, v => v = .int i
  | .lst ts, v => ∃ a xs, v = .ref a ∧ H a = some (.lst xs) ∧ ts.length ≤ 1000000 ∧ RepL H ts xs
  | .tup ts, v => ∃ a xs, v = .ref a ∧ H a = some (.tup xs) ∧ ts.length ≤ 1000000 ∧ RepL H ts xs
noncomputable def RepL (H : Hp) : List Tree → List V → Prop
  | [], xs => xs = []
  | t :: ts, xs => ∃ v vs, xs = v :: vs ∧ Rep H t v ∧ RepL H ts vs
end
mutual
noncomputable def dep : Tree → Nat
  | .int _ => 0
  | .lst ts => depL ts + 1
  | .tup ts => depL ts + 1
noncomputable def depL : List Tree → Nat
  | [] => 0
  | t :: ts => max (dep t) (depL ts)
end
mutual
theorem Rep.same {H H' : Hp} (s : Same H H') : ∀ (t : Tree) {v : V}, Rep H t v → Rep H' t v
  | .int i, v, h => by unfold Rep at h ⊢; exact h
  | .lst ts, v, h => by
    unfold Rep at h ⊢
    obtain ⟨a, xs, e, ha, hl, r⟩ := h
    exact ⟨a, xs, e, s _ _ ha, hl, RepL.same s ts r⟩
  | .tup ts, v, h => by
    unfold Rep at h ⊢
    obtain ⟨a, xs, e, ha, hl, r⟩ := h
    exact ⟨a, xs, e, s _ _ ha, hl, RepL.same s ts r⟩
theorem RepL.same {H H' : Hp} (s : Same H H') : ∀ (ts : List Tree) {xs : List V}, RepL H ts xs → RepL H' ts xs
  | [], xs, h => by unfold RepL at h ⊢; exact h
  | t :: ts, xs, h => by
    unfold RepL at h ⊢
    obtain ⟨v, vs, e, r, rs⟩ := h
    exact ⟨v, vs, e, Rep.same s t r, RepL.same s ts rs⟩
end
/-! ### lists of pairs -/
noncomputable abbrev Pair := Int × Int
end Ck
namespace L2
open PySem
theorem kit_tuple_tuple {K : PySem.W.Frag} : PySem.W.kitOne K (.type "tuple") (.type "tuple") = some true := by rfl
end L2

set_option Elab.async false
set_option linter.all false
set_option maxRecDepth 100000
set_option maxHeartbeats 4000000
/-! Numbers laid on a pile and taken off it; rows of ints as trees. -/
namespace Ck
open PySem L2
theorem cutV_from (xs : List V) (k : Nat) : cutV xs (some (k : Int)) none = xs.drop k := by
  unfold cutV
  rw [HT.sIx_nat, HT.sIx_none]
  rw [List.take_of_length_le (by rw [List.length_drop]; omega)]
  by_cases h : k ≤ xs.length
  · rw [show min k xs.length = k by omega]
  · rw [List.drop_eq_nil_of_le (show xs.length ≤ k by omega), List.drop_eq_nil_of_le (by omega)]
end Ck

set_option Elab.async false
set_option linter.all false
set_option maxRecDepth 100000
set_option maxHeartbeats 4000000
/-! Own rules: list.index; a comprehension whose turns write to the heap; slices with two ends. -/
namespace L2
open PySem PySem.Spec PyProof.Rows PySem.SeqAt
section
variable {X : Cx}
end
end L2
namespace Ck
open PySem L2
theorem cutV_both (xs : List V) (a b : Nat) (ha : a ≤ b) : cutV xs (some (a : Int)) (some (b : Int)) = (xs.drop a).take (b - a) := by
  unfold cutV
  rw [HT.sIx_nat, HT.sIx_nat]
  by_cases h : a ≤ xs.length
  · rw [show min a xs.length = a by omega]
    by_cases h2 : b ≤ xs.length
    · rw [show min b xs.length = b by omega]
    · rw [show min b xs.length = xs.length by omega, List.take_of_length_le (by rw [List.length_drop]; omega), List.take_of_length_le (by rw [List.length_drop]; omega)]
  · rw [List.drop_eq_nil_of_le (show xs.length ≤ a by omega), List.drop_eq_nil_of_le (by omega)]
    simp
theorem map_up_down (d : Int) (ns : List Int) : (ns.map (· + d)).map (· + -d) = ns := by
  rw [List.map_map]
  refine (List.map_congr_left fun y _ => ?_).trans (List.map_id _)
  show y + d + -d = y
  omega
end Ck
namespace Ck
open PySem L2
/-- the fields of a family -/
structure Flds (fs : List (Str × V)) (w : Str) (l : Int) : Prop where
  word : fs.lookup ("word" : Str) = some (.str w)
  least : fs.lookup ("least" : Str) = some (.int l)
  no : ∀ m : Str, m ≠ ("word" : Str) → m ≠ ("least" : Str) → fs.lookup m = none
theorem flds_mk (w : Str) (l : Int) : Flds (putF ("least" : Str) (.int l) (putF ("word" : Str) (.str w) [])) w l :=
  ⟨by rw [lookup_putF, if_neg (by decide), lookup_putF, if_pos rfl], by rw [lookup_putF, if_pos rfl], fun m a b => by rw [lookup_putF, if_neg b, lookup_putF, if_neg a]; rfl⟩
/-! ### pairs raised -/
noncomputable def up (d : Int) (p : Pair) : Pair := (p.1 + d, p.2 + d)
end Ck
namespace Ck
open PySem L2
end Ck
namespace Ck
open PySem L2
end Ck

set_option Elab.async false
set_option linter.all false
set_option maxRecDepth 100000
set_option maxHeartbeats 4000000
/-! Stairs: rows that never fall and stay within their places. -/
namespace Ck
open PySem L2
noncomputable def stF : Nat → Int → List Int → Bool
  | _, _, [] => true
  | k, a, n :: ns => if n < a ∨ (k : Int) < n then false else stF (k + 1) n ns
theorem stF_nil (k : Nat) (a : Int) : stF k a [] = true := rfl
theorem stF_bad {k : Nat} {a n : Int} {ns : List Int} (h : n < a ∨ (k : Int) < n) : stF k a (n :: ns) = false := by unfold stF; rw [if_pos h]
theorem stF_go {k : Nat} {a n : Int} {ns : List Int} (h : ¬ (n < a ∨ (k : Int) < n)) : stF k a (n :: ns) = stF (k + 1) n ns := by conv => lhs; unfold stF; rw [if_neg h]
inductive St : List Int → Int → Prop
  | nil : St [] 0
  | snoc {rs : List Int} {a n : Int} : St rs a → a ≤ n → n ≤ (rs.length : Int) → St (rs ++ [n]) n
theorem St.run {rs : List Int} {a : Int} (h : St rs a) : ∀ ys, stF 0 0 (rs ++ ys) = stF rs.length a ys := by
  induction h with
  | nil => intro ys; rfl
  | @snoc rs a n _ h1 h2 ih =>
    intro ys
    rw [List.append_assoc, ih]
    show stF rs.length a (n :: ys) = _
    rw [stF_go (by omega)]
    simp
theorem St.ok {rs : List Int} {a : Int} (h : St rs a) : stF 0 0 rs = true := by
  have := h.run []
  rw [List.append_nil] at this
  exact this
theorem St.low {rs : List Int} {a : Int} (h : St rs a) : 0 ≤ a := by
  induction h with
  | nil => exact Int.le_refl _
  | snoc _ h1 _ ih => omega
theorem St.top {rs : List Int} {a : Int} (h : St rs a) : a ≤ (rs.length : Int) := by
  induction h with
  | nil => exact Int.le_refl _
  | snoc _ h1 h2 ih => rw [List.length_append]; simp; omega
theorem St.get {rs : List Int} {a : Int} (h : St rs a) : ∀ (i : Nat) (x : Int), rs[i]? = some x → 0 ≤ x ∧ x ≤ (i : Int) := by
  induction h with
  | nil => intro i x e; cases e
  | @snoc rs a n hs h1 h2 ih =>
    intro i x e
    have := hs.low
    by_cases hi : i < rs.length
    · rw [List.getElem?_append_left hi] at e; exact ih i x e
    · rw [List.getElem?_append_right (by omega)] at e
      have hl := (List.getElem?_eq_some_iff.mp e).1
      have h0 : i - rs.length = 0 := by simpa using hl
      rw [h0] at e
      have : n = x := by simpa using e
      omega
noncomputable def joinS (ps qs : List Int) : List Int := [0] ++ ps ++ qs.map (· + ((ps.length : Int) + 1))
theorem joinS_len (ps qs : List Int) : (joinS ps qs).length = ps.length + qs.length + 1 := by unfold joinS; simp <;> omega
theorem joinS_left {ps qs : List Int} {a : Int} (h : St ps a) {j : Nat} (h1 : 1 ≤ j) (h2 : j ≤ ps.length) : (joinS ps qs).getD j 0 ≠ (j : Int) := by
  obtain ⟨i, rfl⟩ : ∃ i, j = i + 1 := ⟨j - 1, by omega⟩
  have hi : i < ps.length := by omega
  have e : (joinS ps qs)[i + 1]? = some ps[i] := by
    unfold joinS
    rw [List.append_assoc, List.getElem?_append_right (by simp)]
    show (ps ++ _)[i + 1 - 1]? = _
    rw [Nat.add_sub_cancel, List.getElem?_append_left hi, List.getElem?_eq_getElem hi]
  have := h.get i ps[i] (List.getElem?_eq_getElem hi)
  rw [List.getD_eq_getElem?_getD, e]
  show ps[i] ≠ ((i + 1 : Nat) : Int)
  omega
theorem joinS_right {ps qs : List Int} {b : Int} (h : St qs b) (hq : 0 < qs.length) : (joinS ps qs).getD (ps.length + 1) 0 = ((ps.length + 1 : Nat) : Int) := by
  have z := h.get 0 qs[0] (List.getElem?_eq_getElem hq)
  have e : (joinS ps qs)[ps.length + 1]? = some (qs[0] + ((ps.length : Int) + 1)) := by
    unfold joinS
    rw [List.getElem?_append_right (by simp)]
    have e1 : ps.length + 1 - ([0] ++ ps).length = 0 := by simp
    rw [e1, List.getElem?_map, List.getElem?_eq_getElem hq]
    rfl
  rw [List.getD_eq_getElem?_getD, e]
  show qs[0] + ((ps.length : Int) + 1) = _
  omega
theorem get_drop {ns : List Int} {i : Nat} (h : i < ns.length) : ns.drop i = ns.getD i 0 :: ns.drop (i + 1) := by
  rw [List.drop_eq_getElem_cons h, List.getD_eq_getElem?_getD, List.getElem?_eq_getElem h]
  rfl
end Ck

set_option Elab.async false
set_option linter.all false
set_option maxRecDepth 100000
set_option maxHeartbeats 4000000
/-! Texts that close: their two parts. -/
namespace Ck
open PySem L2
theorem clo_app : ∀ (a : List Nat) (j k : Nat) (b : List Nat), clo j a = true → clo (k + j) (a ++ b) = clo k b
  | [], j, k, b, h => by
    rw [clo_nil] at h
    have : j = 0 := by simpa using h
    subst this
    rfl
  | c :: a, j, k, b, h => by
    by_cases h1 : c = 40
    · subst h1
      rw [clo_up] at h
      rw [List.cons_append, clo_up]
      exact clo_app a (j + 1) k b h
    · by_cases h2 : c = 41
      · subst h2
        cases j with
        | zero => rw [clo_under] at h; cases h
        | succ j =>
          rw [clo_down] at h
          rw [List.cons_append]
          show clo (k + j + 1) (41 :: _) = _
          rw [clo_down]
          exact clo_app a j k b h
      · rw [clo_other h1 h2] at h; cases h
theorem clo_join {a b : List Nat} (ha : clo 0 a = true) (hb : clo 0 b = true) : clo 0 (40 :: (a ++ 41 :: b)) = true := by
  rw [clo_up, clo_app a 0 1 _ ha, clo_down]
  exact hb
theorem clo_cut : ∀ (t : List Nat) (d : Nat), clo (d + 1) t = true → ∃ a b, t = a ++ 41 :: b ∧ clo d a = true ∧ clo 0 b = true
  | [], d, h => by rw [clo_nil] at h; cases h
  | c :: t, d, h => by
    by_cases h1 : c = 40
    · subst h1
      rw [clo_up] at h
      obtain ⟨a, b, e, ha, hb⟩ := clo_cut t (d + 1) h
      exact ⟨40 :: a, b, by rw [e]; rfl, by rw [clo_up]; exact ha, hb⟩
    · by_cases h2 : c = 41
      · subst h2
        rw [clo_down] at h
        cases d with
        | zero => exact ⟨[], t, rfl, by rw [clo_nil]; rfl, h⟩
        | succ d =>
          obtain ⟨a, b, e, ha, hb⟩ := clo_cut t d h
          exact ⟨41 :: a, b, by rw [e]; rfl, by rw [clo_down]; exact ha, hb⟩
      · rw [clo_other h1 h2] at h; cases h
theorem clo_parts {t : List Nat} (h : clo 0 t = true) (hne : t ≠ []) : ∃ a b, t = 40 :: (a ++ 41 :: b) ∧ clo 0 a = true ∧ clo 0 b = true := by
  cases t with
  | nil => exact absurd rfl hne
  | cons c t =>
    by_cases h1 : c = 40
    · subst h1
      rw [clo_up] at h
      obtain ⟨a, b, e, ha, hb⟩ := clo_cut t 0 h
      exact ⟨a, b, by rw [e], ha, hb⟩
    · by_cases h2 : c = 41
      · subst h2; rw [clo_under] at h; cases h
      · rw [clo_other h1 h2] at h; cases h
/-- one sign further on -/
theorem clo_step {a : List Nat} {p d : Nat} (hp : p < a.length) (h : clo d (a.drop p) = true) : (a[p] = 40 ∧ clo (d + 1) (a.drop (p + 1)) = true) ∨ (a[p] = 41 ∧ ∃ e, d = e + 1 ∧ clo e (a.drop (p + 1)) = true) := by
  rw [List.drop_eq_getElem_cons hp] at h
  by_cases h1 : a[p] = 40
  · rw [h1, clo_up] at h; exact .inl ⟨h1, h⟩
  · by_cases h2 : a[p] = 41
    · rw [h2] at h
      cases d with
      | zero => rw [clo_under] at h; cases h
      | succ d => rw [clo_down] at h; exact .inr ⟨h2, d, rfl, h⟩
    · rw [clo_other h1 h2] at h; cases h
theorem clo_end {a : List Nat} {p d : Nat} (hp : a.length ≤ p) (h : clo d (a.drop p) = true) : d = 0 := by
  rw [List.drop_eq_nil_of_le hp, clo_nil] at h
  simpa using h
theorem slice_mid {x : Str} {p q : Int} (h0 : 0 ≤ p) (h1 : p ≤ q) (h2 : q ≤ x.length) : (Txt.slice x (some p) (some q)).cps.toList = (x.cps.toList.drop p.toNat).take (q.toNat - p.toNat) := by
  rw [slice_codes]
  have e1 : ix x.length 0 (some p) = p.toNat := by show (if p < 0 then _ else _) = _; rw [if_neg (by omega)]; omega
  have e2 : ix x.length x.length (some q) = q.toNat := by show (if q < 0 then _ else _) = _; rw [if_neg (by omega)]; omega
  rw [e1, e2]
theorem part_len {x : Str} {a b : List Nat} (h : x.cps.toList = 40 :: (a ++ 41 :: b)) : x.length = a.length + b.length + 2 := by
  rw [← cps_len, h]
  simp
  omega
theorem part_left {x : Str} {a b : List Nat} (h : x.cps.toList = 40 :: (a ++ 41 :: b)) : (Txt.slice x (some 1) (some ((a.length : Int) + 1))).cps.toList = a := by
  have l := part_len h
  rw [slice_mid (by decide) (by omega) (by omega), h, show ((a.length : Int) + 1).toNat - (1 : Int).toNat = a.length by omega, show (1 : Int).toNat = 1 from rfl, List.drop_succ_cons, List.drop_zero, List.take_left' rfl]
theorem part_right {x : Str} {a b : List Nat} (h : x.cps.toList = 40 :: (a ++ 41 :: b)) : (Txt.slice x (some ((a.length : Int) + 1 + 1)) none).cps.toList = b := by
  rw [slice_from (by omega), h, show ((a.length : Int) + 1 + 1).toNat = a.length + 1 + 1 by omega, List.drop_succ_cons]
  have e : a ++ 41 :: b = (a ++ [41]) ++ b := by simp
  rw [e, List.drop_left' (by simp)]
theorem clo_ends {t : List Nat} (h : clo 0 t = true) : t.length = 2 * t.count 40 := by
  obtain ⟨u, g⟩ := good_of_clo t 0 h
  have l := g.length
  have c : t.count 40 = u := by
    obtain ⟨h', u', bg, _, e⟩ := prefix_beg (n := u) (by simpa using g) t.length (Nat.le_refl _)
    have gd : Good u' (u' + h') (t.drop t.length) := by assumption
    rw [List.drop_length] at gd
    have := gd.length
    rw [List.take_length] at e
    simp at this
    omega
  omega
end Ck
namespace Ck
open PySem L2
end Ck

set_option Elab.async false
set_option linter.all false
set_option maxRecDepth 100000
set_option maxHeartbeats 4000000
/-! Own rules: sorted of ints (fewer than 64), in and not in, all of truths, a comprehension over enumerate. -/
namespace L2
open PySem PySem.Spec PyProof.Rows
section
variable {X : Cx}
end
end L2
namespace Ck
open PySem L2
end Ck

set_option Elab.async false
set_option linter.all false
set_option maxRecDepth 100000
set_option maxHeartbeats 4000000
/-! Rows of cars: counted, sorted, parked. -/
namespace Ck
open PySem L2
end Ck

set_option Elab.async false
set_option linter.all false
set_option maxRecDepth 100000
set_option maxHeartbeats 4000000
/-! Turned round a ring, just one row of wishes is a row of cars. -/
namespace Ck
open PySem L2
end Ck
namespace Ck
open PySem L2
/-- the steps of a row of wishes -/
noncomputable def steps (ws : List Int) : List Int := (List.range (ws.length - 1)).map fun (i : Nat) => (ws.getD (i + 1) 0 - ws.getD i 0) % ((ws.length : Int) + 1)
end Ck

set_option Elab.async false
set_option linter.all false
set_option maxRecDepth 100000
set_option maxHeartbeats 4000000
/-! For laws that look at things: the one refusal NoThing; small facts. -/
namespace L2
open PySem PySem.W
end L2
namespace Ck
open PySem L2
theorem ne_int {a b : Int} (h : a ≠ b) : ¬ V.int a = V.int b := fun z => h (by injection z)
end Ck
namespace Ck
end Ck

set_option Elab.async false
set_option linter.all false
set_option maxRecDepth 100000
set_option maxHeartbeats 4000000
/-! Trees told by elders. -/
namespace Ck
open PySem L2
end Ck
namespace Ck
open PySem L2
theorem dec_int (a b : Int) : decide (V.int a = V.int b) = decide (a = b) := by
  by_cases h : a = b
  · rw [decide_eq_true h, decide_eq_true (by rw [h])]
  · rw [decide_eq_false h, decide_eq_false (ne_int h)]
end Ck
namespace Ck
end Ck
namespace Ck
open PySem L2
end Ck

set_option Elab.async false
set_option linter.all false
set_option maxRecDepth 100000
set_option maxHeartbeats 4000000
/-! Own rules: list(range(..)). -/
namespace L2
open PySem PySem.Spec PyProof.Rows
section
variable {X : Cx}
end
end L2
namespace L2
open PySem PySem.Spec PyProof.Rows
end L2
namespace L2
open PySem PySem.Spec PyProof.Rows
end L2

set_option Elab.async false
set_option linter.all false
set_option maxRecDepth 100000
set_option maxHeartbeats 4000000
/-! Rows that come off a pile. -/
namespace Ck
open PySem L2
noncomputable def rgI (n : Nat) : List Int := (List.range n).map fun (k : Nat) => (k : Int)
noncomputable def stk (row : List Int) (k p : Nat) : List Int := (rgI p).filter fun m => !decide (m ∈ row.take k)
end Ck
namespace Ck
open PySem L2
end Ck

set_option Elab.async false
set_option linter.all false
set_option maxRecDepth 100000
set_option maxHeartbeats 4000000
/-! A tree's code, and a code's tree. -/
namespace Ck
open PySem L2
/-- all knots -/
noncomputable def knots (n : Nat) : List Int := (List.range n).map fun (k : Nat) => 1 + (k : Int)
end Ck
namespace Ck
end Ck
namespace Ck
end Ck

set_option Elab.async false
set_option linter.all false
set_option maxRecDepth 100000
set_option maxHeartbeats 4000000
/-! Own rules: list.remove; rules within comprehensions; a slice up to the last one. -/
namespace L2
open PySem PySem.Spec PyProof.Rows PySem.SeqAt
section
variable {X : Cx}
end
end L2
namespace Ck
open PySem L2
end Ck
namespace L2
open PySem
end L2
namespace Ck
open PySem L2
end Ck

set_option Elab.async false
set_option linter.all false
set_option maxRecDepth 100000
set_option maxHeartbeats 4000000
/-! Figures of a number, rings' things and their codes; objects of one of several classes. -/
namespace L2
open PySem PySem.Spec PyProof.Rows
section
variable {X : Cx}
/-- one of two readings -/
noncomputable def tEit (t1 t2 : TE) : TE := fun σ H Q => t1 σ H Q ∨ t2 σ H Q
theorem pe_eit {e : Expr} {t1 t2 : TE} (h1 : PE X e t1) (h2 : PE X e t2) : PE X e (tEit t1 t2) := fun pins s σ H Q I h => h.elim (h1 pins s σ H Q I) (h2 pins s σ H Q I)
end
end L2
namespace Ck
open PySem L2
end Ck
namespace L2
open PySem PySem.Spec PyProof.Rows PyProof
end L2

set_option Elab.async false
set_option linter.all false
set_option maxRecDepth 100000
set_option maxHeartbeats 4000000
/-! Things that part in two: brackets, stairs, twins; their number by parts. -/
namespace Ck
open PySem L2
inductive Bt where
  | leaf
  | node (l r : Bt)
noncomputable def Bt.size : Bt → Nat
  | .leaf => 0
  | .node l r => l.size + r.size + 1
noncomputable def brk : Bt → List Nat
  | .leaf => []
  | .node l r => 40 :: (brk l ++ 41 :: brk r)
noncomputable def stT : Bt → List Int
  | .leaf => []
  | .node l r => joinS (stT l) (stT r)
theorem brk_len : ∀ t : Bt, (brk t).length = 2 * t.size
  | .leaf => rfl
  | .node l r => by
    show (40 :: (brk l ++ 41 :: brk r)).length = 2 * (l.size + r.size + 1)
    rw [List.length_cons, List.length_append, List.length_cons, brk_len l, brk_len r]
    omega
theorem brk_clo : ∀ t : Bt, clo 0 (brk t) = true
  | .leaf => rfl
  | .node l r => clo_join (brk_clo l) (brk_clo r)
theorem brk_count (t : Bt) : (brk t).count 40 = t.size := by
  have := clo_ends (brk_clo t)
  rw [brk_len] at this
  omega
theorem brk_all : ∀ (n : Nat) (x : List Nat), x.length ≤ n → clo 0 x = true → ∃ t, brk t = x
  | 0, x, hn, _ => ⟨.leaf, (List.eq_nil_of_length_eq_zero (by omega)).symm⟩
  | n + 1, x, hn, h => by
    by_cases hx : x = []
    · exact ⟨.leaf, hx.symm⟩
    · obtain ⟨a, b, rfl, ha, hb⟩ := clo_parts h hx
      rw [List.length_cons, List.length_append, List.length_cons] at hn
      obtain ⟨l, rfl⟩ := brk_all n a (by omega) ha
      obtain ⟨r, rfl⟩ := brk_all n b (by omega) hb
      exact ⟨.node l r, rfl⟩
theorem stT_len : ∀ t : Bt, (stT t).length = t.size
  | .leaf => rfl
  | .node l r => by
    show (joinS (stT l) (stT r)).length = _
    rw [joinS_len, stT_len l, stT_len r]
    rfl
theorem St.zero {ps : List Int} {p : Int} (h : St ps p) : St ([0] ++ ps) p := by
  induction h with
  | nil => exact St.snoc .nil (by omega) (by simp)
  | @snoc rs a x _ h1 h2 ih =>
    rw [← List.append_assoc]
    exact St.snoc ih h1 (by simp; omega)
theorem St.app {rs qs : List Int} {a q : Int} (h : St rs a) (k : St qs q) : ∃ c, St (rs ++ qs.map (· + (rs.length : Int))) c ∧ (qs = [] → c = a) ∧ (qs ≠ [] → c = q + (rs.length : Int)) := by
  induction k with
  | nil => exact ⟨a, by simpa using h, fun _ => rfl, fun z => absurd rfl z⟩
  | @snoc qs q x k h1 h2 ih =>
    obtain ⟨c, hc, e1, e2⟩ := ih
    refine ⟨x + (rs.length : Int), ?_, (fun z => by simp at z), fun _ => rfl⟩
    rw [List.map_append, ← List.append_assoc]
    have ht := h.top
    have hl := k.low
    refine St.snoc (n := x + (rs.length : Int)) hc ?_ (by simp; omega)
    by_cases z : qs = []
    · rw [e1 z]; omega
    · rw [e2 z]; omega
theorem stT_St : ∀ t : Bt, ∃ a, St (stT t) a
  | .leaf => ⟨0, .nil⟩
  | .node l r => by
    obtain ⟨a, ha⟩ := stT_St l
    obtain ⟨b, hb⟩ := stT_St r
    obtain ⟨c, hc, _⟩ := ha.zero.app hb
    refine ⟨c, ?_⟩
    show St (joinS (stT l) (stT r)) c
    unfold joinS
    have e : (([0] ++ stT l : List Int).length : Int) = ((stT l).length : Int) + 1 := by simp
    rw [e] at hc
    exact hc
/-! ### numbers -/
/-- how many stand ahead of those whose left part has size j -/
noncomputable def pre (n j : Nat) : Int := ((List.range j).map fun i => sh i * sh (n - 1 - i)).sum
/-! ### twins in the store -/
noncomputable def Tw (H : Hp) : V → Bt → Prop
  | v, .leaf => ∃ p, v = .ref p ∧ H p = some (.tup [])
  | v, .node l r => ∃ p a b, v = .ref p ∧ H p = some (.tup [a, b]) ∧ Tw H a l ∧ Tw H b r
theorem Tw.same {H H' : Hp} (s : Same H H') : ∀ {t : Bt} {v : V}, Tw H v t → Tw H' v t
  | .leaf, _, ⟨p, e, h⟩ => ⟨p, e, s _ _ h⟩
  | .node l r, _, ⟨p, a, b, e, h, hl, hr⟩ => ⟨p, a, b, e, s _ _ h, hl.same s, hr.same s⟩
/-- a thing of the family w, its tree -/
noncomputable def Th (w : Nat) (H : Hp) (v : V) (t : Bt) : Prop := match w with
  | 0 => ∃ x : Str, v = .str x ∧ x.cps.toList = brk t
  | 1 => ∃ p, v = .ref p ∧ H p = some (.lst ((stT t).map V.int))
  | _ => Tw H v t
theorem Th.same {w : Nat} {H H' : Hp} {v : V} {t : Bt} (h : Th w H v t) (s : Same H H') : Th w H' v t := by
  match w, h with
  | 0, h => exact h
  | 1, ⟨p, e, h⟩ => exact ⟨p, e, s _ _ h⟩
  | _ + 2, h => exact Tw.same s h
end Ck

set_option Elab.async false
set_option linter.all false
set_option maxRecDepth 100000
set_option maxHeartbeats 4000000
/-! A list that takes a tuple's items in; twins. -/
namespace L2
open PySem PySem.Spec PyProof.Rows
theorem extend_tup (l b : Addr) (us vs : Array Value) (n m : Nat) (d : Option Addr) (sl : Array (Option Value)) (h0 : ¬(!us.isEmpty && Builtin.List.listTooLong (us.size + vs.size)) = true) (h1 : us.size ≤ sizeLine) (h2 : us.size + vs.size ≤ sizeLine + 1) :
    Meets (Builtin.«list.extend» ⟨[.ref l, .ref b], []⟩) (fun _ R s => s.heap.get? l = some { cls := .type "list", dict := none, data := .seq us n, slots := #[] } ∧
      s.heap.get? b = some { cls := .type "tuple", dict := d, data := .seq vs m, slots := sl } ∧
      R (.ok (.ret Value.none)) { s with heap := s.heap.update l (Obj.mapSeq fun x => x ++ vs), toks := s.toks }) :=
  .of_wp fun prog w A R s h => by
    obtain ⟨hp, g, dr, tk, os⟩ := s
    obtain ⟨hl, hb, h⟩ := h
    have f2 := AutoSeq1.sub_tuple_tuple
    have f3 := AutoSeq1.sub_list_list
    have f4 := AutoSeq1.sub_tuple_list
    have f5 := AutoSeq1.sub_list_tuple
    have h2' : (us ++ vs).size ≤ sizeLine + 1 := by rw [Array.size_append]; exact h2
    wp_walk using (wpAny_updateSeq hl rfl (hz := h1) (_hz' := h2')), AutoSeq1.wpAny_loadPart' hl, AutoSeq1.wpAny_loadPart' hb
    exact ⟨_, rfl, h⟩
section
variable {X : Cx}
noncomputable def rExtT (K : PySem.W.Frag) : V → List V → Hp → VK → Prop := fun x vs H Q => ∃ l b xs zs, x = .ref l ∧ vs = [.ref b] ∧ H l = some (.lst xs) ∧ SqT K H b zs ∧ xs.length + zs.length ≤ sizeLine ∧ Q .non (upd H l (.lst (xs ++ zs)))
theorem mt_extT : MtM X "list.extend" (rExtT X.K) := by
  intro pins s σ H x vs v us Q I rx rv h
  obtain ⟨l, b, xs, zs, rfl, rfl, hH, hB, hz, q⟩ := h
  cases rx
  obtain ⟨u, rfl, ru⟩ := rv.one
  cases ru
  obtain ⟨z, its, n, r, hl, e⟩ := I.lstM hH
  obtain ⟨its2, r2, ⟨⟨oc, od, dt, os⟩, e2, c2, m2, d2⟩, z2⟩ := I.tuple hB
  dsimp only at c2 d2
  subst c2 d2
  have l1 := r.length
  have l2 := r2.length
  have hsz : its.toArray.size + its2.toArray.size ≤ sizeLine := by rw [List.size_toArray, List.size_toArray]; omega
  have hlong : ¬ (!its.toArray.isEmpty && Builtin.List.listTooLong (its.toArray.size + its2.toArray.size)) = true := by
    rw [notLongL hsz, Bool.and_false]
    exact Bool.false_ne_true
  refine call_meets F.slot_list_extend ⟨_, e, rfl⟩ F.entry_list_extend (F.args_list_extend_2 _ _) (extend_tup l b its.toArray its2.toArray n m2 od os hlong (by rw [List.size_toArray]; omega) (by omega)) ⟨e, e2, ?_⟩
  refine ⟨.non, _, I.lset (its' := its ++ its2) hH e (by simp) (r.append r2) ?_, rfl, q⟩
  rw [List.length_append]
  omega
variable {X : Cx} {o e : Expr} {es : List Expr} {to : TE} {t : TA} {name : Str} {apos cpos : Pos} {T id : String} {r : V → List V → Hp → VK → Prop}
theorem pe_bmC {K : PySem.W.Frag} (hK : X.K = K) (pa : PlainAttrs T) (slot : Slot T name id) (hty : typeOf (.builtin id) = pure (.type "method_descriptor")) (hm : MtR X id r) (ho : PE X o to) (ha : PA X (e :: es) t)
    (hbase : attributeBase o name X.env (eval o X.env) = eval o X.env := by rfl)
    (hfew : ((backTo cpos (starEach (e :: es) X.env)).all (fun x => !x.1) && (backToKw cpos (keywordEach [] X.env)).all (fun x => x.1.isSome)
      && decide ((e :: es).length + ([] : List Keyword).length + (if ([] : List Keyword).isEmpty then 0 else 1) < 30)) = true := by rfl)
    (hline : (apos.endLine == cpos.line) = true := by rfl) (hs : starEach (e :: es) X.env = (false, eval e X.env) :: starEach es X.env := by rfl) (hplain : (backTo cpos (starEach es X.env)).any (·.1) = false := by rfl) :
    PE X (.Call (.Attribute o name apos) (e :: es) [] cpos) (tBM K T r to t) := by
  subst hK
  exact pe_bm pa slot hty hm ho ha hbase hfew hline hs hplain
end
section
variable {X : Cx}
end
theorem comp_rangeW {lo : Int} {n : Nat} {g : TG} {tt : TT} {te : TE} {σ0 : St} {H : Hp} {D : Addr} {Q : VK} (Pv : Nat → List V → Hp → Prop) (hz : n ≤ sizeLine)
    (h0 : Pv 0 [] (upd H D (.lst []))) (hl : ∀ i ys H', i ≤ n → Pv i ys H' → ys.length ≤ i)
    (hs : ∀ (i : Nat) (ys : List V) (H' : Hp) (R : VK) (R0 : Hp → Prop), i < n → Pv i ys H' → (∀ v H3, H3 D = some (.lst ys) → Pv (i + 1) (ys ++ [v]) (upd H3 D (.lst (ys ++ [v]))) → R v H3) → (∀ H3, Pv (i + 1) ys H3 → R0 H3) →
      g (.int (lo + i)) σ0 H' fun σ2 H2 => Ext σ0 σ2 ∧ tt σ2 H2 fun b H3 => if b = true then te σ2 H3 R else R0 H3)
    (hq : ∀ ys H', Pv n ys H' → Q (.ref D) H') :
    CompW (Itr lo n) g tt te σ0 D Q H := by
  refine ⟨fun i m ys H' => m = n - i ∧ i ≤ n ∧ Pv i ys H', ⟨n, by simp, Nat.zero_le _, h0⟩, ?_⟩
  rintro i m ys H' ⟨rfl, hi, p⟩
  have ly := hl i ys H' hi p
  by_cases hlt : i < n
  · refine .inr ⟨hlt, fun x H'' y => ?_⟩
    obtain ⟨e, y⟩ := y
    subst e y
    refine hs i ys _ _ _ hlt p (fun v H3 hD p' => ⟨hD, by omega, n - (i + 1), by omega, rfl, hlt, p'⟩) fun H3 p' => ⟨n - (i + 1), by omega, rfl, hlt, p'⟩
  · have e : i = n := by omega
    subst e
    exact .inl ⟨Nat.le_refl _, hq ys H' p⟩
end L2
namespace Ck
open PySem L2
theorem ngT {b : Bool} {A B : Prop} (h : b = false) (x : A) : if (if true = true then !b else b) = true then A else B := by subst h; exact x
theorem ngF {b : Bool} {A B : Prop} (h : b = true) (x : B) : if (if true = true then !b else b) = true then A else B := by subst h; exact x
/-- against the empty tuple -/
theorem EqD.unit {K : PySem.W.Frag} {H : Hp} {n : Nat} {a b : Addr} {xs : List V} (ne : a ≠ b) (ha : SqT K H a xs) (hb : SqT K H b []) : EqD K H (n + 1) (.ref a) (.ref b) (decide (xs = [])) := by
  have h := EqD.tup (n := n) (e := fun _ => true) ne ha hb (fun j x y _ hy => by cases hy)
  have e : ((List.range (min xs.length ([] : List V).length)).all (fun _ => true) && xs.length == ([] : List V).length) = decide (xs = []) := by
    cases xs with
    | nil => rfl
    | cons x xs => simp
  rw [e] at h
  exact h
/-- against the empty list -/
theorem EqD.void {K : PySem.W.Frag} {H : Hp} {n : Nat} {a b : Addr} {xs : List V} (ne : a ≠ b) (ha : SqL K H a xs) (hb : SqL K H b []) : EqD K H (n + 1) (.ref a) (.ref b) (decide (xs = [])) := by
  cases xs with
  | nil => exact EqD.lstT ne ha hb rfl (fun j x y hx _ => by cases hx)
  | cons x xs => exact EqD.lstN ne ha hb (by simp)
noncomputable abbrev Tws (H : Hp) : List V → List Bt → Prop := Paired fun v t => Tw H v t
noncomputable def sizes (ts : List Bt) : Nat := (ts.map Bt.size).sum
theorem sizes_app (as bs : List Bt) : sizes (as ++ bs) = sizes as + sizes bs := by unfold sizes; rw [List.map_append, List.sum_append]
theorem Tws.app {H : Hp} : ∀ {xs ys : List V} {ts us : List Bt}, Tws H xs ts → Tws H ys us → Tws H (xs ++ ys) (ts ++ us)
  | _, _, _, _, .nil, h => h
  | _, _, _, _, .cons r t, h => .cons r (Tws.app t h)
theorem Tws.unsnoc {H : Hp} : ∀ {xs : List V} {ts : List Bt}, Tws H xs ts → xs ≠ [] → ∃ ys y us u, xs = ys ++ [y] ∧ ts = us ++ [u] ∧ Tws H ys us ∧ Tw H y u
  | [_], [_], .cons r .nil, _ => ⟨[], _, [], _, rfl, rfl, .nil, r⟩
  | _ :: b :: xs, _, .cons r (.cons r' t), _ => by
    obtain ⟨ys, y, us, u, e1, e2, h1, h2⟩ := Tws.unsnoc (.cons r' t) (by simp)
    exact ⟨_ :: ys, y, _ :: us, u, by rw [e1]; rfl, by rw [e2]; rfl, .cons r h1, h2⟩
theorem Tw.ref {H : Hp} : ∀ {t : Bt} {v : V}, Tw H v t → ∃ p xs, v = .ref p ∧ H p = some (.tup xs) ∧ (xs = [] ↔ t = .leaf)
  | .leaf, _, ⟨p, e, h⟩ => ⟨p, [], e, h, by simp⟩
  | .node l r, _, ⟨p, a, b, e, h, _⟩ => ⟨p, [a, b], e, h, by simp⟩
/-! ### twins: kept where tuples are kept; parts; read from the right -/
theorem Tw.keep {H H' : Hp} (s : ∀ p xs, H p = some (.tup xs) → H' p = some (.tup xs)) : ∀ {t : Bt} {v : V}, Tw H v t → Tw H' v t
  | .leaf, _, ⟨p, e, h⟩ => ⟨p, e, s _ _ h⟩
  | .node l r, _, ⟨p, a, b, e, h, hl, hr⟩ => ⟨p, a, b, e, s _ _ h, hl.keep s, hr.keep s⟩
theorem Tws.keep {H H' : Hp} (s : ∀ p xs, H p = some (.tup xs) → H' p = some (.tup xs)) : ∀ {xs : List V} {ts : List Bt}, Tws H xs ts → Tws H' xs ts
  | _, _, .nil => .nil
  | _, _, .cons r t => .cons (r.keep s) (Tws.keep s t)
noncomputable def kids : Bt → List Bt
  | .leaf => []
  | .node l r => [l, r]
theorem kids_size {t b : Bt} (h : b ∈ kids t) : b.size < t.size := by
  cases t with
  | leaf => cases h
  | node l r =>
    have sn : (Bt.node l r).size = l.size + r.size + 1 := rfl
    have h : b ∈ [l, r] := h
    simp only [List.mem_cons, List.not_mem_nil, or_false] at h
    rcases h with rfl | rfl <;> omega
theorem Tw.kids {H : Hp} : ∀ {t : Bt} {v : V}, Tw H v t → ∃ p xs, v = .ref p ∧ H p = some (.tup xs) ∧ Tws H xs (kids t)
  | .leaf, _, ⟨p, e, h⟩ => ⟨p, [], e, h, .nil⟩
  | .node l r, _, ⟨p, a, b, e, h, hl, hr⟩ => ⟨p, [a, b], e, h, .cons hl (.cons hr .nil)⟩
theorem Tws.len {H : Hp} : ∀ {xs : List V} {ts : List Bt}, Tws H xs ts → xs.length = ts.length
  | _, _, .nil => rfl
  | _, _, .cons _ t => congrArg (· + 1) (Tws.len t)
theorem Tws.at {H : Hp} : ∀ {xs : List V} {ts : List Bt} {i : Nat} {b : Bt}, Tws H xs ts → ts[i]? = some b → ∃ x, xs[i]? = some x ∧ Tw H x b
  | _, _, 0, _, .cons r _, e => ⟨_, rfl, by simp at e; rw [← e]; exact r⟩
  | _, _, i + 1, _, .cons _ t, e => Tws.at (i := i) t (by simpa using e)
  | _, _, _, _, .nil, e => by simp at e
noncomputable def stepT (c : Nat) : Bt × List Bt → Option (Bt × List Bt)
  | (h, ps) => if c = 41 then some (.leaf, h :: ps) else match ps with
    | [] => none
    | p :: ps => some (.node h p, ps)
noncomputable def runT : List Nat → Bt × List Bt → Option (Bt × List Bt)
  | [], s => some s
  | c :: cs, s => (runT cs s).bind (stepT c)
theorem runT_app : ∀ (a b : List Nat) (s : Bt × List Bt), runT (a ++ b) s = (runT b s).bind (runT a)
  | [], b, s => by show runT b s = (runT b s).bind fun s => some s; cases runT b s <;> rfl
  | c :: a, b, s => by
    show (runT (a ++ b) s).bind (stepT c) = _
    rw [runT_app a b s]
    cases runT b s <;> rfl
theorem runT_brk : ∀ (t : Bt) (ps : List Bt), runT (brk t) (.leaf, ps) = some (t, ps)
  | .leaf, ps => rfl
  | .node l r, ps => by
    show (runT (brk l ++ 41 :: brk r) (.leaf, ps)).bind (stepT 40) = _
    rw [runT_app]
    show ((((runT (brk r) (.leaf, ps)).bind (stepT 41))).bind (runT (brk l))).bind (stepT 40) = _
    rw [runT_brk r ps]
    show (runT (brk l) (.leaf, r :: ps)).bind (stepT 40) = _
    rw [runT_brk l (r :: ps)]
    rfl
theorem runT_at : ∀ {xs : List Nat} {s z : Bt × List Bt} {k c : Nat}, runT xs s = some z → xs[k]? = some c → ∃ y y', runT (xs.drop (k + 1)) s = some y ∧ stepT c y = some y' ∧ runT (xs.drop k) s = some y'
  | c :: cs, s, z, 0, d, h, e => by
    have h : (runT cs s).bind (stepT c) = some z := h
    simp at e
    subst e
    cases hy : runT cs s with
    | none => rw [hy] at h; cases h
    | some y => rw [hy] at h; exact ⟨y, z, hy, h, by show (runT cs s).bind (stepT c) = _; rw [hy]; exact h⟩
  | c :: cs, s, z, k + 1, d, h, e => by
    have h : (runT cs s).bind (stepT c) = some z := h
    cases hy : runT cs s with
    | none => rw [hy] at h; cases h
    | some y => exact runT_at (k := k) hy (by simpa using e)
/-! ### brackets as stairs; new things; led by parts -/
noncomputable def Nw (H : Hp) (v : V) : Prop := ∀ p, v = .ref p → H p = none
theorem Nw.back {H H' : Hp} {v : V} (h : Nw H' v) (s : Same H H') : Nw H v := fun p e => s.free (h p e)
noncomputable def rowsB : Int → List Nat → List Int
  | _, [] => []
  | d, c :: x => if c = 40 then d :: rowsB d x else rowsB (d + 1) x
theorem rowsB_brk : ∀ (t : Bt) (d : Int) (y : List Nat), rowsB d (brk t ++ y) = (stT t).map (· + d) ++ rowsB (d + (t.size : Int)) y
  | .leaf, d, y => by show rowsB d y = rowsB (d + ((0 : Nat) : Int)) y; rw [show d + ((0 : Nat) : Int) = d by omega]
  | .node l r, d, y => by
    have h1 := rowsB_brk l d (41 :: (brk r ++ y))
    have h2 := rowsB_brk r (d + (l.size : Int) + 1) y
    show rowsB d (40 :: (brk l ++ 41 :: brk r) ++ y) = _
    rw [show 40 :: (brk l ++ 41 :: brk r) ++ y = 40 :: (brk l ++ 41 :: (brk r ++ y)) by simp]
    show d :: rowsB d (brk l ++ 41 :: (brk r ++ y)) = _
    rw [h1]
    show d :: ((stT l).map (· + d) ++ rowsB (d + (l.size : Int) + 1) (brk r ++ y)) = _
    rw [h2]
    have e1 : d + (l.size : Int) + 1 + (r.size : Int) = d + ((Bt.node l r).size : Int) := by show _ = d + ((l.size + r.size + 1 : Nat) : Int); omega
    rw [e1]
    show _ = (joinS (stT l) (stT r)).map (· + d) ++ _
    unfold joinS
    rw [stT_len]
    simp only [List.map_append, List.map_cons, List.map_nil, List.map_map, List.cons_append, List.nil_append, List.append_assoc, Int.zero_add]
    congr 3
    refine List.map_congr_left fun z _ => ?_
    show z + (d + (l.size : Int) + 1) = z + ((l.size : Int) + 1) + d
    omega
theorem rowsB_full (t : Bt) : rowsB 0 (brk t) = stT t := by
  have h := rowsB_brk t 0 []
  rw [List.append_nil] at h
  rw [h]
  show (stT t).map (· + 0) ++ [] = _
  simp
theorem rowsB_snoc : ∀ (x : List Nat) (d : Int) (c : Nat), (∀ z ∈ x, z = 40 ∨ z = 41) → rowsB d (x ++ [c]) = rowsB d x ++ if c = 40 then [d + (x.count 41 : Nat)] else []
  | [], d, c, _ => by
    show (if c = 40 then d :: [] else []) = [] ++ if c = 40 then [d + ((0 : Nat) : Int)] else []
    rw [show d + ((0 : Nat) : Int) = d by omega]
    rfl
  | z :: x, d, c, h => by
    have h' : ∀ z ∈ x, z = 40 ∨ z = 41 := fun z hz => h z (by simp [hz])
    rcases h z (by simp) with rfl | rfl
    · show d :: rowsB d (x ++ [c]) = d :: rowsB d x ++ _
      rw [rowsB_snoc x d c h', List.count_cons_of_ne (by decide)]
      rfl
    · show rowsB (d + 1) (x ++ [c]) = rowsB (d + 1) x ++ _
      rw [rowsB_snoc x (d + 1) c h', List.count_cons_self, show d + 1 + ((x.count 41 : Nat) : Int) = d + ((x.count 41 + 1 : Nat) : Int) by omega]
theorem brk_signs : ∀ (t : Bt), ∀ z ∈ brk t, z = 40 ∨ z = 41
  | .leaf, z, h => by cases h
  | .node l r, z, h => by
    have h : z ∈ 40 :: (brk l ++ 41 :: brk r) := h
    simp only [List.mem_cons, List.mem_append] at h
    rcases h with h | h | h | h
    · exact .inl h
    · exact brk_signs l z h
    · exact .inr h
    · exact brk_signs r z h
theorem Th.put {w : Nat} {H : Hp} {v : V} {t : Bt} {pg : Addr} {xs : List V} {o : HO} (h : Th w H v t) (hg : H pg = some (.lst xs)) (ne : v ≠ .ref pg) : Th w (upd H pg o) v t := by
  match w, h with
  | 0, h => exact h
  | 1, ⟨p, e, h⟩ => exact ⟨p, e, (upd_ne (fun z => ne (by rw [e, z]))).trans h⟩
  | _ + 2, h => exact Tw.keep (fun p xs e => (upd_ne (fun z => by rw [z, hg] at e; cases e)).trans e) h
theorem Th.old {w : Nat} {H : Hp} {v : V} {t : Bt} {p : Addr} (h : Th w H v t) (e : v = .ref p) : H p ≠ none := by
  match w, h with
  | 0, ⟨x, e', _⟩ => rw [e'] at e; cases e
  | 1, ⟨p', e', h⟩ => rw [e'] at e; cases e; rw [h]; exact fun z => by cases z
  | _ + 2, h =>
    obtain ⟨p', xs, e', h', _⟩ := Tw.ref h
    rw [e'] at e
    cases e
    rw [h']
    exact fun z => by cases z
/-! ### every number is a thing's; a thing against itself -/
end Ck

set_option Elab.async false
set_option linter.all false
set_option maxRecDepth 100000
set_option maxHeartbeats 4000000
/-! Rows that are no code, no tree, no cars. -/
namespace Ck
open PySem L2
end Ck

set_option Elab.async false
set_option linter.all false
set_option maxRecDepth 100000
/-! The head in one piece: the run of the text's top, looked at where it ends. -/
namespace Ck
open PySem PySem.W PySem.Calls PyProof.Rows
/-- what is asked where the top ends -/
noncomputable def endLook {α : Type} (p q : Program) (loose : List Str) (Xt : Shared → Bool) (Yf : Shared → α) (h0 : Heap) (s : Shared) :=
  ((staticsOk (importedModules p.main.body) h0 s.heap && namesBound p s.heap && gensDone s && laidKept h0 s.heap),
    openSeen q loose (importedModules p.main.body) Xt true s, Yf s)
theorem left_whole {p q : Program} {loose : List Str} {Xt : Shared → Bool} {α : Type} {Yf : Shared → α} {Ya : World → α} {N M m : Nat} {H : Params → Heap} {gs : Array GenState} {dr : Drawn} {tk : Nat} {an : Option Value}
    (o : ∀ w : World, (fencedOpening treeTable p w N).map (fun s => (s.heap, s.gens, s.drawn, s.toks)) = some (H w.params, gs, dr, tk))
    (z : ∀ w : World, ((H w.params).isNs mainGlobals && gs.size == 0, (H w.params).objs.size, (H w.params).nsMap mainGlobals "__annotations__") = (true, m, an))
    (r : ∀ (w : World) (os : OsState), ∃ e, topRun treeTable p w m an M ⟨H w.params, gs, dr, tk, os⟩ (topStub p) = some e ∧ endLook p q loose Xt Yf (H w.params) e = (true, openGood q loose, Ya w))
    (le : M ≤ N) : LeftO p q loose Xt Yf Ya N := by
  intro w
  have ow := o w
  cases hf : fencedOpening treeTable p w N with
  | none => rw [hf] at ow; cases ow
  | some s =>
    rw [hf] at ow
    have os := Option.some.inj ow
    have e1 : s.heap = H w.params := congrArg Prod.fst os
    have e2 : s.gens = gs := congrArg (fun x => x.2.1) os
    have e3 : s.drawn = dr := congrArg (fun x => x.2.2.1) os
    have e4 : s.toks = tk := congrArg (fun x => x.2.2.2) os
    obtain ⟨e, run, look⟩ := r w s.os
    have hs : s = ⟨H w.params, gs, dr, tk, s.os⟩ := by rw [← e1, ← e2, ← e3, ← e4]
    have run' := topRun_mono (N - M) _ _ _ _ run
    rw [Nat.add_sub_cancel' le] at run'
    have zw := z w
    have z1 := congrArg Prod.fst zw
    have z2 := congrArg (fun x => x.2.1) zw
    have z3 := congrArg (fun x => x.2.2) zw
    dsimp only at z1 z2 z3
    have l1 := congrArg Prod.fst look
    have l2 := congrArg Prod.snd look
    have tf : topFrom treeTable p w N s = some e := by
      rw [hs]
      unfold topFrom
      dsimp only
      rw [z1, z2, z3, run']
      unfold endLook at l1
      dsimp only at l1
      dsimp only [Option.bind]
      rw [l1]
    unfold openEnds
    rw [hf, Option.bind_some, tf]
    exact congrArg some l2
section
variable {tb : String → Option Builtin} {p : Program} {w : World} {m : Nat} {an : Option Value} {env : Env} {q : Pos}
/-- what the run of the text is asked in the end -/
noncomputable def lookEnd {β : Type} (tb : String → Option Builtin) (p : Program) (w : World) (m : Nat) (an : Option Value) (q : Pos) (c : Code) (n4 : Nat) (L : Shared → β) (r : Flow × SharedT × Code × Pos) : Flow × Code × Option β :=
  (r.1, r.2.2.1, (topRun tb p w m an n4 r.2.1.abs ⟨doneF .next, c, r.2.2.2, [topFrame q]⟩).map L)
theorem run_whole {β : Type} {L : Shared → β} {b : List Stmt} {c : Code} {n1 n2 n3 n4 : Nat} {S0 Sa : Shared} {Sb : SharedT} {pos0 pos1 : Pos} {z : β} (hc : c = .body b env)
    (h1 : topGo tb p w m an n1 S0 (topStub p) = some (Sa, ⟨denote tb c, c, pos0, [topFrame q]⟩))
    (h2 : segRun tb p w m an 1 n2 Sa (blockOf b env c pos0 [topFrame q]) = some (.next, Sb.abs, c, pos1))
    (h3 : (segRunT tb p w m an 1 n3 Sb (piecesOf b env c pos1 [topFrame q])).map (lookEnd tb p w m an q c n4 L) = some (.next, c, some z)) :
    ∃ e, topRun tb p w m an (n1 + (n2 + (n3 + n4))) S0 (topStub p) = some e ∧ L e = z := by
  cases hr : segRunT tb p w m an 1 n3 Sb (piecesOf b env c pos1 [topFrame q]) with
  | none => rw [hr] at h3; cases h3
  | some x =>
    obtain ⟨f, s, d, ps⟩ := x
    rw [hr] at h3
    have h3 := Option.some.inj h3
    unfold lookEnd at h3
    have a1 : f = .next := congrArg Prod.fst h3
    have a2 : d = c := congrArg (fun x => x.2.1) h3
    have a3 := congrArg (fun x => x.2.2) h3
    dsimp only at a3
    subst a1 a2 hc
    cases ht : topRun tb p w m an n4 s.abs ⟨doneF .next, .body b env, ps, [topFrame q]⟩ with
    | none => rw [ht] at a3; cases a3
    | some e =>
      rw [ht] at a3
      have k := piece_app (rest := []) (segRun_of hr) (piece_nil ht)
      rw [List.append_nil] at k
      exact ⟨e, go_top h1 (piece_block h2 k), Option.some.inj a3⟩
end
end Ck

set_option maxHeartbeats 4000000
namespace Ck
open PySem L2
noncomputable def top (i : Nat) : Stmt := PySem.Challenge.pw_countkin_k11_led_by_parts.main.body.getD i (.Pass ⟨0, 0, 0, 0⟩)
/-- where the classes and their methods lie -/
structure ClA where
  C_Brackets : Addr
  C_Stairs : Addr
  C_Twins : Addr
  C_SplitFamily : Addr
  C_Family : Addr
  f_Brackets__is_one : Addr
  f_Brackets__Family_refuse_other : Addr
  f_Stairs__is_one : Addr
  f_Stairs__Family_refuse_other : Addr
  f_Twins__is_one : Addr
  f_Twins__Family_refuse_other : Addr
  f_Brackets__size_of : Addr
  f_Stairs__size_of : Addr
  f_Twins__size_of : Addr
  f_Brackets__bare : Addr
  f_Stairs__bare : Addr
  f_Twins__bare : Addr
  f_Brackets__parted : Addr
  f_Stairs__parted : Addr
  f_Twins__parted : Addr
  f_Brackets__joined : Addr
  f_Stairs__joined : Addr
  f_Twins__joined : Addr
  f_Brackets__Family___init__ : Addr
  f_Brackets__SplitFamily___init__ : Addr
  f_Brackets____init__ : Addr
  f_Stairs__Family___init__ : Addr
  f_Stairs__SplitFamily___init__ : Addr
  f_Stairs____init__ : Addr
  f_Twins__Family___init__ : Addr
  f_Twins__SplitFamily___init__ : Addr
  f_Twins____init__ : Addr
structure ClOk (K : PySem.W.Frag) (mg : Str → Option Value) (ca : ClA) : Prop where
  m_Brackets : mg "Brackets" = some (.ref ca.C_Brackets)
  m_Stairs : mg "Stairs" = some (.ref ca.C_Stairs)
  m_Twins : mg "Twins" = some (.ref ca.C_Twins)
  m_SplitFamily : mg "SplitFamily" = some (.ref ca.C_SplitFamily)
  m_Family : mg "Family" = some (.ref ca.C_Family)
  c_Brackets : Cls K ca.C_Brackets
  c_Stairs : Cls K ca.C_Stairs
  c_Twins : Cls K ca.C_Twins
  mt_Brackets_refuse_other : Meth K ca.C_Brackets "refuse_other" ca.f_Brackets__Family_refuse_other
  mt_Stairs_refuse_other : Meth K ca.C_Stairs "refuse_other" ca.f_Stairs__Family_refuse_other
  mt_Twins_refuse_other : Meth K ca.C_Twins "refuse_other" ca.f_Twins__Family_refuse_other
  mt_Brackets_is_one : Meth K ca.C_Brackets "is_one" ca.f_Brackets__is_one
  mt_Stairs_is_one : Meth K ca.C_Stairs "is_one" ca.f_Stairs__is_one
  mt_Twins_is_one : Meth K ca.C_Twins "is_one" ca.f_Twins__is_one
  mt_Brackets_size_of : Meth K ca.C_Brackets "size_of" ca.f_Brackets__size_of
  mt_Stairs_size_of : Meth K ca.C_Stairs "size_of" ca.f_Stairs__size_of
  mt_Twins_size_of : Meth K ca.C_Twins "size_of" ca.f_Twins__size_of
  mt_Brackets_bare : Meth K ca.C_Brackets "bare" ca.f_Brackets__bare
  mt_Stairs_bare : Meth K ca.C_Stairs "bare" ca.f_Stairs__bare
  mt_Twins_bare : Meth K ca.C_Twins "bare" ca.f_Twins__bare
  mt_Brackets_parted : Meth K ca.C_Brackets "parted" ca.f_Brackets__parted
  mt_Stairs_parted : Meth K ca.C_Stairs "parted" ca.f_Stairs__parted
  mt_Twins_parted : Meth K ca.C_Twins "parted" ca.f_Twins__parted
  mt_Brackets_joined : Meth K ca.C_Brackets "joined" ca.f_Brackets__joined
  mt_Stairs_joined : Meth K ca.C_Stairs "joined" ca.f_Stairs__joined
  mt_Twins_joined : Meth K ca.C_Twins "joined" ca.f_Twins__joined
  mk_Brackets : Mk K ca.C_Brackets ca.f_Brackets____init__
  mk_Stairs : Mk K ca.C_Stairs ca.f_Stairs____init__
  mk_Twins : Mk K ca.C_Twins ca.f_Twins____init__
  cm_SplitFamily___init___Brackets : ClsM K ca.C_SplitFamily "__init__" ca.f_Brackets__SplitFamily___init__
  cm_Family___init___Brackets : ClsM K ca.C_Family "__init__" ca.f_Brackets__Family___init__
  cm_SplitFamily___init___Stairs : ClsM K ca.C_SplitFamily "__init__" ca.f_Stairs__SplitFamily___init__
  cm_Family___init___Stairs : ClsM K ca.C_Family "__init__" ca.f_Stairs__Family___init__
  cm_SplitFamily___init___Twins : ClsM K ca.C_SplitFamily "__init__" ca.f_Twins__SplitFamily___init__
  cm_Family___init___Twins : ClsM K ca.C_Family "__init__" ca.f_Twins__Family___init__
  na_Brackets_word : NoAttr K ca.C_Brackets "word"
  na_Brackets_least : NoAttr K ca.C_Brackets "least"
  na_Stairs_word : NoAttr K ca.C_Stairs "word"
  na_Stairs_least : NoAttr K ca.C_Stairs "least"
  na_Twins_word : NoAttr K ca.C_Twins "word"
  na_Twins_least : NoAttr K ca.C_Twins "least"
noncomputable abbrev s__law_cell_at : Stmt := top 29
theorem sc__law_cell_at : FnScope ["_law_script", "_law_k"] ["_law_script", "_law_k"] (defScope s__law_cell_at) := ⟨rfl, rfl, rfl, by decide +kernel, rfl, by decide +kernel, by decide +kernel⟩
noncomputable abbrev s__law_mix : Stmt := top 31
theorem sc__law_mix : FnScope ["_law_cell", "_law_turn", "_law_number"] ["_law_cell", "_law_turn"] (defScope s__law_mix) := ⟨rfl, rfl, rfl, by decide +kernel, rfl, by decide +kernel, by decide +kernel⟩
noncomputable abbrev s__law_draws : Stmt := top 32
theorem sc__law_draws : FnScope ["_law_script", "_law_turn", "_law_many", "_law_cells", "_law_found", "_law_lefts", "_law_k", "_law_at", "_law_number"] ["_law_script", "_law_turn", "_law_many"] (defScope s__law_draws) := ⟨rfl, rfl, rfl, by decide +kernel, rfl, by decide +kernel, by decide +kernel⟩
noncomputable abbrev s__law_text_by : Stmt := top 33
theorem sc__law_text_by : FnScope ["_law_script", "_law_size", "_law_turn", "_law_draws_here", "_law_lean", "_law_signs", "_law_ups", "_law_k", "_law_height", "_law_up"] ["_law_script", "_law_size", "_law_turn"] (defScope s__law_text_by) := ⟨rfl, rfl, rfl, by decide +kernel, rfl, by decide +kernel, by decide +kernel⟩
noncomputable abbrev s__law_spoiled_text : Stmt := top 40
theorem sc__law_spoiled_text : FnScope ["_law_text", "_law_cell", "_law_number", "_law_at", "_law_other", "_law_kind", "_law_signs"] ["_law_text", "_law_cell"] (defScope s__law_spoiled_text) := ⟨rfl, rfl, rfl, by decide +kernel, rfl, by decide +kernel, by decide +kernel⟩
noncomputable abbrev s__law_spoiled_row : Stmt := top 41
theorem sc__law_spoiled_row : FnScope ["_law_row", "_law_cell", "_law_far", "_law_at", "_law_number"] ["_law_row", "_law_cell", "_law_far"] (defScope s__law_spoiled_row) := ⟨rfl, rfl, rfl, by decide +kernel, rfl, by decide +kernel, by decide +kernel⟩
noncomputable abbrev s__law_twins_by : Stmt := top 35
theorem sc__law_twins_by : FnScope ["_law_text", "_law_pile", "_law_here", "_law_k"] ["_law_text"] (defScope s__law_twins_by) := ⟨rfl, rfl, rfl, by decide +kernel, rfl, by decide +kernel, by decide +kernel⟩
noncomputable abbrev s__law_thing : Stmt := top 43
theorem sc__law_thing : FnScope ["_law_way", "_law_text"] ["_law_way", "_law_text"] (defScope s__law_thing) := ⟨rfl, rfl, rfl, by decide +kernel, rfl, by decide +kernel, by decide +kernel⟩
noncomputable abbrev s__law_closes : Stmt := top 38
theorem sc__law_closes : FnScope ["_law_text", "_law_height", "_law_sign"] ["_law_text"] (defScope s__law_closes) := ⟨rfl, rfl, rfl, by decide +kernel, rfl, by decide +kernel, by decide +kernel⟩
noncomputable abbrev s__law_is_stairs : Stmt := top 39
theorem sc__law_is_stairs : FnScope ["_law_row", "_law_k"] ["_law_row"] (defScope s__law_is_stairs) := ⟨rfl, rfl, rfl, by decide +kernel, rfl, by decide +kernel, by decide +kernel⟩
noncomputable abbrev s_closes : Stmt := top 20
theorem sc_closes : FnScope ["text", "depth", "sign"] ["text"] (defScope s_closes) := ⟨rfl, rfl, rfl, by decide +kernel, rfl, by decide +kernel, by decide +kernel⟩
noncomputable abbrev s_Brackets__is_one : Stmt := inClass (top 22) 2
theorem sc_Brackets__is_one : FnScope ["self", "thing"] ["self", "thing"] (defScope s_Brackets__is_one) := ⟨rfl, rfl, rfl, by decide +kernel, rfl, by decide +kernel, by decide +kernel⟩
noncomputable abbrev s_Brackets__Family_refuse_other : Stmt := inClass (top 13) 7
theorem sc_Brackets__Family_refuse_other : FnScope ["self", "thing"] ["self", "thing"] (defScope s_Brackets__Family_refuse_other) := ⟨rfl, rfl, rfl, by decide +kernel, rfl, by decide +kernel, by decide +kernel⟩
noncomputable abbrev s_Stairs__is_one : Stmt := inClass (top 24) 2
theorem sc_Stairs__is_one : FnScope ["self", "thing", "ahead", "place", "number"] ["self", "thing"] (defScope s_Stairs__is_one) := ⟨rfl, rfl, rfl, by decide +kernel, rfl, by decide +kernel, by decide +kernel⟩
noncomputable abbrev s_Stairs__Family_refuse_other : Stmt := inClass (top 13) 7
theorem sc_Stairs__Family_refuse_other : FnScope ["self", "thing"] ["self", "thing"] (defScope s_Stairs__Family_refuse_other) := ⟨rfl, rfl, rfl, by decide +kernel, rfl, by decide +kernel, by decide +kernel⟩
noncomputable abbrev s_Twins__is_one : Stmt := inClass (top 27) 2
theorem sc_Twins__is_one : FnScope ["self", "thing"] ["self", "thing"] (defScope s_Twins__is_one) := ⟨rfl, rfl, rfl, by decide +kernel, rfl, by decide +kernel, by decide +kernel⟩
noncomputable abbrev s_Twins__Family_refuse_other : Stmt := inClass (top 13) 7
theorem sc_Twins__Family_refuse_other : FnScope ["self", "thing"] ["self", "thing"] (defScope s_Twins__Family_refuse_other) := ⟨rfl, rfl, rfl, by decide +kernel, rfl, by decide +kernel, by decide +kernel⟩
noncomputable abbrev s_Brackets__size_of : Stmt := inClass (top 22) 1
theorem sc_Brackets__size_of : FnScope ["self", "thing"] ["self", "thing"] (defScope s_Brackets__size_of) := ⟨rfl, rfl, rfl, by decide +kernel, rfl, by decide +kernel, by decide +kernel⟩
noncomputable abbrev s_Stairs__size_of : Stmt := inClass (top 24) 1
theorem sc_Stairs__size_of : FnScope ["self", "thing"] ["self", "thing"] (defScope s_Stairs__size_of) := ⟨rfl, rfl, rfl, by decide +kernel, rfl, by decide +kernel, by decide +kernel⟩
noncomputable abbrev s_Twins__size_of : Stmt := inClass (top 27) 1
theorem sc_Twins__size_of : FnScope ["self", "thing", "pairs", "row", "twin"] ["self", "thing"] (defScope s_Twins__size_of) := ⟨rfl, rfl, rfl, by decide +kernel, rfl, by decide +kernel, by decide +kernel⟩
noncomputable abbrev s_Brackets__bare : Stmt := inClass (top 22) 3
theorem sc_Brackets__bare : FnScope ["self"] ["self"] (defScope s_Brackets__bare) := ⟨rfl, rfl, rfl, by decide +kernel, rfl, by decide +kernel, by decide +kernel⟩
noncomputable abbrev s_Stairs__bare : Stmt := inClass (top 24) 3
theorem sc_Stairs__bare : FnScope ["self"] ["self"] (defScope s_Stairs__bare) := ⟨rfl, rfl, rfl, by decide +kernel, rfl, by decide +kernel, by decide +kernel⟩
noncomputable abbrev s_Twins__bare : Stmt := inClass (top 27) 3
theorem sc_Twins__bare : FnScope ["self"] ["self"] (defScope s_Twins__bare) := ⟨rfl, rfl, rfl, by decide +kernel, rfl, by decide +kernel, by decide +kernel⟩
noncomputable abbrev s_first_close : Stmt := top 23
theorem sc_first_close : FnScope ["text", "depth", "place"] ["text"] (defScope s_first_close) := ⟨rfl, rfl, rfl, by decide +kernel, rfl, by decide +kernel, by decide +kernel⟩
noncomputable abbrev s_Brackets__parted : Stmt := inClass (top 22) 4
theorem sc_Brackets__parted : FnScope ["self", "thing", "end"] ["self", "thing"] (defScope s_Brackets__parted) := ⟨rfl, rfl, rfl, by decide +kernel, rfl, by decide +kernel, by decide +kernel⟩
noncomputable abbrev s_right_begin : Stmt := top 25
theorem sc_right_begin : FnScope ["stairs", "place"] ["stairs"] (defScope s_right_begin) := ⟨rfl, rfl, rfl, by decide +kernel, rfl, by decide +kernel, by decide +kernel⟩
noncomputable abbrev s_raised_by : Stmt := top 18
theorem sc_raised_by : FnScope ["numbers", "step"] ["numbers", "step"] (defScope s_raised_by) := ⟨rfl, rfl, rfl, by decide +kernel, rfl, by decide +kernel, by decide +kernel⟩
noncomputable abbrev s_Stairs__parted : Stmt := inClass (top 24) 4
theorem sc_Stairs__parted : FnScope ["self", "thing", "begin"] ["self", "thing"] (defScope s_Stairs__parted) := ⟨rfl, rfl, rfl, by decide +kernel, rfl, by decide +kernel, by decide +kernel⟩
noncomputable abbrev s_Twins__parted : Stmt := inClass (top 27) 4
theorem sc_Twins__parted : FnScope ["self", "thing"] ["self", "thing"] (defScope s_Twins__parted) := ⟨rfl, rfl, rfl, by decide +kernel, rfl, by decide +kernel, by decide +kernel⟩
noncomputable abbrev s_Brackets__joined : Stmt := inClass (top 22) 5
theorem sc_Brackets__joined : FnScope ["self", "left", "right"] ["self", "left", "right"] (defScope s_Brackets__joined) := ⟨rfl, rfl, rfl, by decide +kernel, rfl, by decide +kernel, by decide +kernel⟩
noncomputable abbrev s_Stairs__joined : Stmt := inClass (top 24) 5
theorem sc_Stairs__joined : FnScope ["self", "left", "right"] ["self", "left", "right"] (defScope s_Stairs__joined) := ⟨rfl, rfl, rfl, by decide +kernel, rfl, by decide +kernel, by decide +kernel⟩
noncomputable abbrev s_Twins__joined : Stmt := inClass (top 27) 5
theorem sc_Twins__joined : FnScope ["self", "left", "right"] ["self", "left", "right"] (defScope s_Twins__joined) := ⟨rfl, rfl, rfl, by decide +kernel, rfl, by decide +kernel, by decide +kernel⟩
noncomputable abbrev s_led_by_parts : Stmt := top 16
theorem sc_led_by_parts : FnScope ["one", "other", "thing", "parts", "left", "right"] ["one", "other", "thing"] (defScope s_led_by_parts) := ⟨rfl, rfl, rfl, by decide +kernel, rfl, by decide +kernel, by decide +kernel⟩
noncomputable abbrev s_by_parts : Stmt := top 15
theorem sc_by_parts : FnScope ["one", "other", "thing"] ["one", "other", "thing"] (defScope s_by_parts) := ⟨rfl, rfl, rfl, by decide +kernel, rfl, by decide +kernel, by decide +kernel⟩
noncomputable abbrev s_Brackets__Family___init__ : Stmt := inClass (top 13) 0
theorem sc_Brackets__Family___init__ : FnScope ["self", "word", "least"] ["self", "word", "least"] (defScope s_Brackets__Family___init__) := ⟨rfl, rfl, rfl, by decide +kernel, rfl, by decide +kernel, by decide +kernel⟩
noncomputable abbrev s_Brackets__SplitFamily___init__ : Stmt := inClass (top 14) 0
theorem sc_Brackets__SplitFamily___init__ : FnScope ["self", "word"] ["self", "word"] (defScope s_Brackets__SplitFamily___init__) := ⟨rfl, rfl, rfl, by decide +kernel, rfl, by decide +kernel, by decide +kernel⟩
noncomputable abbrev s_Brackets____init__ : Stmt := inClass (top 22) 0
theorem sc_Brackets____init__ : FnScope ["self"] ["self"] (defScope s_Brackets____init__) := ⟨rfl, rfl, rfl, by decide +kernel, rfl, by decide +kernel, by decide +kernel⟩
noncomputable abbrev s_Stairs__Family___init__ : Stmt := inClass (top 13) 0
theorem sc_Stairs__Family___init__ : FnScope ["self", "word", "least"] ["self", "word", "least"] (defScope s_Stairs__Family___init__) := ⟨rfl, rfl, rfl, by decide +kernel, rfl, by decide +kernel, by decide +kernel⟩
noncomputable abbrev s_Stairs__SplitFamily___init__ : Stmt := inClass (top 14) 0
theorem sc_Stairs__SplitFamily___init__ : FnScope ["self", "word"] ["self", "word"] (defScope s_Stairs__SplitFamily___init__) := ⟨rfl, rfl, rfl, by decide +kernel, rfl, by decide +kernel, by decide +kernel⟩
noncomputable abbrev s_Stairs____init__ : Stmt := inClass (top 24) 0
theorem sc_Stairs____init__ : FnScope ["self"] ["self"] (defScope s_Stairs____init__) := ⟨rfl, rfl, rfl, by decide +kernel, rfl, by decide +kernel, by decide +kernel⟩
noncomputable abbrev s_Twins__Family___init__ : Stmt := inClass (top 13) 0
theorem sc_Twins__Family___init__ : FnScope ["self", "word", "least"] ["self", "word", "least"] (defScope s_Twins__Family___init__) := ⟨rfl, rfl, rfl, by decide +kernel, rfl, by decide +kernel, by decide +kernel⟩
noncomputable abbrev s_Twins__SplitFamily___init__ : Stmt := inClass (top 14) 0
theorem sc_Twins__SplitFamily___init__ : FnScope ["self", "word"] ["self", "word"] (defScope s_Twins__SplitFamily___init__) := ⟨rfl, rfl, rfl, by decide +kernel, rfl, by decide +kernel, by decide +kernel⟩
noncomputable abbrev s_Twins____init__ : Stmt := inClass (top 27) 0
theorem sc_Twins____init__ : FnScope ["self"] ["self"] (defScope s_Twins____init__) := ⟨rfl, rfl, rfl, by decide +kernel, rfl, by decide +kernel, by decide +kernel⟩
noncomputable abbrev s__law_kin : Stmt := top 42
theorem sc__law_kin : FnScope ["_law_way"] ["_law_way"] (defScope s__law_kin) := ⟨rfl, rfl, rfl, by decide +kernel, rfl, by decide +kernel, by decide +kernel⟩
noncomputable abbrev s__law_classes : Stmt := top 37
theorem sc__law_classes : FnScope ["_law_error", "_law_found"] ["_law_error"] (defScope s__law_classes) := ⟨rfl, rfl, rfl, by decide +kernel, rfl, by decide +kernel, by decide +kernel⟩
noncomputable abbrev s__law_refused : Stmt := top 45
theorem sc__law_refused : FnScope ["_law_way", "_law_other", "_law_thing_here", "_law_kept", "e"] ["_law_way", "_law_other", "_law_thing_here"] (defScope s__law_refused) := ⟨rfl, rfl, rfl, by decide +kernel, rfl, by decide +kernel, by decide +kernel⟩
noncomputable abbrev s__law_whole : Stmt := top 30
theorem sc__law_whole : FnScope ["_law_found"] ["_law_found"] (defScope s__law_whole) := ⟨rfl, rfl, rfl, by decide +kernel, rfl, by decide +kernel, by decide +kernel⟩
noncomputable abbrev s__law_numbers : Stmt := top 34
theorem sc__law_numbers : FnScope ["_law_found", "_law_due", "_law_k"] ["_law_found", "_law_due"] (defScope s__law_numbers) := ⟨rfl, rfl, rfl, by decide +kernel, rfl, by decide +kernel, by decide +kernel⟩
noncomputable abbrev s__law_same_twins : Stmt := top 36
theorem sc__law_same_twins : FnScope ["_law_found", "_law_due", "_law_k"] ["_law_found", "_law_due"] (defScope s__law_same_twins) := ⟨rfl, rfl, rfl, by decide +kernel, rfl, by decide +kernel, by decide +kernel⟩
noncomputable abbrev s__law_same : Stmt := top 44
theorem sc__law_same : FnScope ["_law_way", "_law_found", "_law_due"] ["_law_way", "_law_found", "_law_due"] (defScope s__law_same) := ⟨rfl, rfl, rfl, by decide +kernel, rfl, by decide +kernel, by decide +kernel⟩
noncomputable abbrev s_law : Stmt := top 46
theorem sc_law : FnScope ["_law_script", "_law_way", "_law_other", "_law_text", "_law_thing_here", "_law_handed", "_law_found"] ["_law_script"] (defScope s_law) := ⟨rfl, rfl, rfl, by decide +kernel, rfl, by decide +kernel, by decide +kernel⟩
noncomputable def sp__law_cell_at (K : PySem.W.Frag) (_ : ClA) : Sp := fun vs H Q _ => ∃ (a : Addr) (ns : List Int) (k : Int), vs = [.ref a, .int k] ∧ SqL K H a (ns.map V.int) ∧ 0 ≤ k ∧ Q (.int (ns.getD k.toNat 0)) H
noncomputable def sp__law_mix (_ : PySem.W.Frag) (_ : ClA) : Sp := fun vs H Q _ => ∃ c t : Int, vs = [.int c, .int t] ∧ 0 ≤ t ∧ t ≤ 100000 ∧ ∀ m : Int, 0 ≤ m → m < 2147483629 → Q (.int m) H
noncomputable def sp__law_draws (K : PySem.W.Frag) (_ : ClA) : Sp := fun vs H Q _ => ∃ (a : Addr) (ns : List Int) (t m : Int), vs = [.ref a, .int t, .int m] ∧ SqL K H a (ns.map V.int) ∧ ns.length ≤ 63 ∧ 0 ≤ t ∧ t ≤ 1000 ∧ 0 ≤ m ∧ m ≤ 1000 ∧
  ∀ (p : Addr) (xs : List Int) (H' : Hp), Same H H' → H p = none → H' p = some (.lst (xs.map V.int)) → xs.length = m.toNat → (∀ x ∈ xs, 0 ≤ x ∧ x < 2147483587) → Q (.ref p) H'
noncomputable def sp__law_text_by (K : PySem.W.Frag) (_ : ClA) : Sp := fun vs H Q _ => ∃ (a : Addr) (ns : List Int) (n t : Int), vs = [.ref a, .int n, .int t] ∧ SqL K H a (ns.map V.int) ∧ ns.length ≤ 63 ∧ 0 ≤ n ∧ n ≤ 40 ∧ 0 ≤ t ∧ t ≤ 1000 ∧
  ∀ (x : Str) (H' : Hp), Same H H' → clo 0 x.cps.toList = true → x.length = 2 * n.toNat → Q (.str x) H'
noncomputable def sp__law_spoiled_text (_ : PySem.W.Frag) (_ : ClA) : Sp := fun vs H Q _ => ∃ (t : Str) (c : Int), vs = [.str t, .int c] ∧ 0 < t.length ∧ t.length ≤ 200 ∧ ∀ (y : Str) (H' : Hp), Same H H' → Q (.str y) H'
noncomputable def sp__law_spoiled_row (K : PySem.W.Frag) (_ : ClA) : Sp := fun vs H Q _ => ∃ (p : Addr) (rs : List Int) (c f : Int), vs = [.ref p, .int c, .int f] ∧ H p = some (.lst (rs.map V.int)) ∧ 0 < rs.length ∧ rs.length ≤ 41 ∧ ∀ (r : Addr) (ms : List Int) (H' : Hp), Same H H' → H' r = some (.lst (ms.map V.int)) → ms.length ≤ 1000 → Q (.ref r) H'
noncomputable def sp__law_twins_by (K : PySem.W.Frag) (_ : ClA) : Sp := fun vs H Q _ => ∃ (x : Str) (t : Bt), vs = [.str x] ∧ x.cps.toList = brk t ∧ t.size ≤ 40 ∧ ∀ (v : V) (H' : Hp), Same H H' → Tw H' v t → Q v H'
noncomputable def sp__law_thing (K : PySem.W.Frag) (_ : ClA) : Sp := fun vs H Q _ => ∃ (w : Nat) (x : Str) (t : Bt), vs = [.int (w : Int), .str x] ∧ w ≤ 2 ∧ x.cps.toList = brk t ∧ t.size ≤ 40 ∧ ∀ (v : V) (H' : Hp), Same H H' → Th w H' v t → Q v H'
noncomputable def sp__law_closes (_ : PySem.W.Frag) (_ : ClA) : Sp := fun vs H Q _ => ∃ x : Str, vs = [.str x] ∧ Q (.bl (clo 0 x.cps.toList)) H
noncomputable def sp__law_is_stairs (K : PySem.W.Frag) (_ : ClA) : Sp := fun vs H Q _ => ∃ (l : Addr) (ns : List Int), vs = [.ref l] ∧ SqL K H l (ns.map V.int) ∧ ns.length ≤ 1000 ∧ Q (.bl (stF 0 0 ns)) H
noncomputable def sp_closes (_ : PySem.W.Frag) (_ : ClA) : Sp := fun vs H Q _ => ∃ x : Str, vs = [.str x] ∧ Q (.bl (clo 0 x.cps.toList)) H
noncomputable def sp_Brackets__is_one (K : PySem.W.Frag) (_ : ClA) : Sp := fun vs H Q _ => ∃ (x : Addr) (v : V) (b : Bool), vs = [.ref x, v] ∧ (∃ y : Str, v = .str y ∧ b = clo 0 y.cps.toList) ∧ ∀ H', Same H H' → Q (.bl b) H'
noncomputable def sp_Brackets__Family_refuse_other (K : PySem.W.Frag) (ca : ClA) (er : Errs) : Sp := fun vs H Q E => ∃ (x dx : Addr) (fs : List (Str × V)) (wd : Str) (v : V), vs = [.ref x, v] ∧ H x = some (.ins ca.C_Brackets dx fs) ∧ Flds fs wd 0 ∧ ((∃ t, Th 0 H v t ∧ ∀ H', Same H H' → Q .non H') ∨ ((∃ y : Str, v = .str y ∧ clo 0 y.cps.toList = false) ∧ ∀ H', Same H H' → E (.ref er.thing) none H'))
noncomputable def sp_Stairs__is_one (K : PySem.W.Frag) (_ : ClA) : Sp := fun vs H Q _ => ∃ (x : Addr) (v : V) (b : Bool), vs = [.ref x, v] ∧ (∃ (p : Addr) (rs : List Int), v = .ref p ∧ H p = some (.lst (rs.map V.int)) ∧ b = stF 0 0 rs) ∧ ∀ H', Same H H' → Q (.bl b) H'
noncomputable def sp_Stairs__Family_refuse_other (K : PySem.W.Frag) (ca : ClA) (er : Errs) : Sp := fun vs H Q E => ∃ (x dx : Addr) (fs : List (Str × V)) (wd : Str) (v : V), vs = [.ref x, v] ∧ H x = some (.ins ca.C_Stairs dx fs) ∧ Flds fs wd 0 ∧ ((∃ t, Th 1 H v t ∧ ∀ H', Same H H' → Q .non H') ∨ ((∃ (p : Addr) (rs : List Int), v = .ref p ∧ H p = some (.lst (rs.map V.int)) ∧ stF 0 0 rs = false) ∧ ∀ H', Same H H' → E (.ref er.thing) none H'))
noncomputable def sp_Twins__is_one (K : PySem.W.Frag) (_ : ClA) : Sp := fun vs H Q _ => ∃ (x : Addr) (v : V) (b : Bool), vs = [.ref x, v] ∧ (b = true) ∧ ∀ H', Same H H' → Q (.bl b) H'
noncomputable def sp_Twins__Family_refuse_other (K : PySem.W.Frag) (ca : ClA) (er : Errs) : Sp := fun vs H Q E => ∃ (x dx : Addr) (fs : List (Str × V)) (wd : Str) (v : V), vs = [.ref x, v] ∧ H x = some (.ins ca.C_Twins dx fs) ∧ Flds fs wd 0 ∧ ((∃ t, Th 2 H v t ∧ ∀ H', Same H H' → Q .non H') ∨ ((False) ∧ ∀ H', Same H H' → E (.ref er.thing) none H'))
noncomputable def sp_Brackets__size_of (K : PySem.W.Frag) (_ : ClA) : Sp := fun vs H Q _ => ∃ (x : Addr) (v : V) (t : Bt), vs = [.ref x, v] ∧ Th 0 H v t ∧ t.size ≤ 40 ∧ ∀ H', Same H H' → Q (.int (t.size : Int)) H'
noncomputable def sp_Stairs__size_of (K : PySem.W.Frag) (_ : ClA) : Sp := fun vs H Q _ => ∃ (x : Addr) (v : V) (t : Bt), vs = [.ref x, v] ∧ Th 1 H v t ∧ t.size ≤ 40 ∧ ∀ H', Same H H' → Q (.int (t.size : Int)) H'
noncomputable def sp_Twins__size_of (K : PySem.W.Frag) (_ : ClA) : Sp := fun vs H Q _ => ∃ (x : Addr) (v : V) (t : Bt), vs = [.ref x, v] ∧ Th 2 H v t ∧ t.size ≤ 40 ∧ ∀ H', Same H H' → Q (.int (t.size : Int)) H'
noncomputable def sp_Brackets__bare (_ : PySem.W.Frag) (_ : ClA) : Sp := fun vs H Q _ => ∃ x, vs = [.ref x] ∧ ∀ (v : V) (H' : Hp), Same H H' → Nw H v → Th 0 H' v .leaf → Q v H'
noncomputable def sp_Stairs__bare (_ : PySem.W.Frag) (_ : ClA) : Sp := fun vs H Q _ => ∃ x, vs = [.ref x] ∧ ∀ (v : V) (H' : Hp), Same H H' → Nw H v → Th 1 H' v .leaf → Q v H'
noncomputable def sp_Twins__bare (_ : PySem.W.Frag) (_ : ClA) : Sp := fun vs H Q _ => ∃ x, vs = [.ref x] ∧ ∀ (v : V) (H' : Hp), Same H H' → Nw H v → Th 2 H' v .leaf → Q v H'
noncomputable def sp_first_close (_ : PySem.W.Frag) (_ : ClA) : Sp := fun vs H Q _ => ∃ (t : Str) (a b : List Nat), vs = [.str t] ∧ t.cps.toList = 40 :: (a ++ 41 :: b) ∧ clo 0 a = true ∧ t.length ≤ 1000 ∧ Q (.int ((a.length : Int) + 1)) H
noncomputable def sp_Brackets__parted (K : PySem.W.Frag) (ca : ClA) : Sp := fun vs H Q _ => ∃ (x : Addr) (v : V) (bl br : Bt), vs = [.ref x, v] ∧ Th 0 H v (.node bl br) ∧ bl.size + br.size ≤ 39 ∧ ∀ (p : Addr) (vl vr : V) (H' : Hp), Same H H' → H' p = some (.tup [vl, vr]) → Th 0 H' vl bl → Th 0 H' vr br → Q (.ref p) H'
noncomputable def sp_right_begin (K : PySem.W.Frag) (_ : ClA) : Sp := fun vs H Q _ => ∃ (l : Addr) (ps qs : List Int) (a b : Int), vs = [.ref l] ∧ SqL K H l ((joinS ps qs).map V.int) ∧ St ps a ∧ St qs b ∧ ps.length + qs.length ≤ 1000 ∧ Q (.int ((ps.length + 1 : Nat) : Int)) H
noncomputable def sp_raised_by (K : PySem.W.Frag) (_ : ClA) : Sp := fun vs H Q _ => ∃ (l : Addr) (ns : List Int) (d : Int), vs = [.ref l, .int d] ∧ SqL K H l (ns.map V.int) ∧ ns.length ≤ 1000 ∧ ∀ (p : Addr) (H' : Hp), Same H H' → H p = none → H' p = some (.lst ((ns.map (· + d)).map V.int)) → Q (.ref p) H'
noncomputable def sp_Stairs__parted (K : PySem.W.Frag) (ca : ClA) : Sp := fun vs H Q _ => ∃ (x : Addr) (v : V) (bl br : Bt), vs = [.ref x, v] ∧ Th 1 H v (.node bl br) ∧ bl.size + br.size ≤ 39 ∧ ∀ (p : Addr) (vl vr : V) (H' : Hp), Same H H' → H' p = some (.tup [vl, vr]) → Th 1 H' vl bl → Th 1 H' vr br → Q (.ref p) H'
noncomputable def sp_Twins__parted (K : PySem.W.Frag) (ca : ClA) : Sp := fun vs H Q _ => ∃ (x : Addr) (v : V) (bl br : Bt), vs = [.ref x, v] ∧ Th 2 H v (.node bl br) ∧ bl.size + br.size ≤ 39 ∧ ∀ (p : Addr) (vl vr : V) (H' : Hp), Same H H' → H' p = some (.tup [vl, vr]) → Th 2 H' vl bl → Th 2 H' vr br → Q (.ref p) H'
noncomputable def sp_Brackets__joined (K : PySem.W.Frag) (ca : ClA) : Sp := fun vs H Q _ => ∃ (x : Addr) (vl vr : V) (bl br : Bt), vs = [.ref x, vl, vr] ∧ Th 0 H vl bl ∧ Th 0 H vr br ∧ bl.size + br.size ≤ 39 ∧ ∀ (v : V) (H' : Hp), Same H H' → Nw H v → Th 0 H' v (.node bl br) → Q v H'
noncomputable def sp_Stairs__joined (K : PySem.W.Frag) (ca : ClA) : Sp := fun vs H Q _ => ∃ (x : Addr) (vl vr : V) (bl br : Bt), vs = [.ref x, vl, vr] ∧ Th 1 H vl bl ∧ Th 1 H vr br ∧ bl.size + br.size ≤ 39 ∧ ∀ (v : V) (H' : Hp), Same H H' → Nw H v → Th 1 H' v (.node bl br) → Q v H'
noncomputable def sp_Twins__joined (K : PySem.W.Frag) (ca : ClA) : Sp := fun vs H Q _ => ∃ (x : Addr) (vl vr : V) (bl br : Bt), vs = [.ref x, vl, vr] ∧ Th 2 H vl bl ∧ Th 2 H vr br ∧ bl.size + br.size ≤ 39 ∧ ∀ (v : V) (H' : Hp), Same H H' → Nw H v → Th 2 H' v (.node bl br) → Q v H'
noncomputable def Kn (ca : ClA) (H : Hp) (x dx : Addr) (fs : List (Str × V)) (w : Nat) : Prop := (w = 0 → H x = some (.ins ca.C_Brackets dx fs)) ∧ (w = 1 → H x = some (.ins ca.C_Stairs dx fs)) ∧ (w = 2 → H x = some (.ins ca.C_Twins dx fs))
theorem Kn.same {ca : ClA} {H H' : Hp} {x dx : Addr} {fs : List (Str × V)} {w : Nat} (h : Kn ca H x dx fs w) (s : Same H H') : Kn ca H' x dx fs w := ⟨fun e => s _ _ (h.1 e), fun e => s _ _ (h.2.1 e), fun e => s _ _ (h.2.2 e)⟩

noncomputable def sp_led_by_parts (K : PySem.W.Frag) (ca : ClA) (n : Nat) : Sp := fun vs H Q _ => ∃ (x dx : Addr) (fs : List (Str × V)) (wd : Str) (y dy : Addr) (gs : List (Str × V)) (we : Str) (w u : Nat) (v : V) (t : Bt), vs = [.ref x, .ref y, v] ∧ w ≤ 2 ∧ u ≤ 2 ∧ Kn ca H x dx fs w ∧ Flds fs wd 0 ∧ Kn ca H y dy gs u ∧ Flds gs we 0 ∧ Th w H v t ∧ t.size = n ∧ n ≤ 40 ∧ ∀ (g : V) (H' : Hp), Same H H' → Nw H g → Th u H' g t → Q g H'
noncomputable def spA_led_by_parts (K : PySem.W.Frag) (ca : ClA) : Sp := below 41 (fun n => sp_led_by_parts K ca n)
noncomputable def sp_by_parts (K : PySem.W.Frag) (ca : ClA) (er : Errs) : Sp := fun vs H Q E => ∃ (x dx : Addr) (fs : List (Str × V)) (wd : Str) (y dy : Addr) (gs : List (Str × V)) (we : Str) (w u : Nat) (v : V), vs = [.ref x, .ref y, v] ∧ w ≤ 2 ∧ u ≤ 2 ∧ Kn ca H x dx fs w ∧ Flds fs wd 0 ∧ Kn ca H y dy gs u ∧ Flds gs we 0 ∧ ((∃ t, Th w H v t ∧ t.size ≤ 40 ∧ ∀ (g : V) (H' : Hp), Same H H' → Nw H g → Th u H' g t → Q g H') ∨
  (((w = 0 ∧ ∃ y : Str, v = .str y ∧ clo 0 y.cps.toList = false) ∨ (w = 1 ∧ ∃ (p : Addr) (rs : List Int), v = .ref p ∧ H p = some (.lst (rs.map V.int)) ∧ stF 0 0 rs = false)) ∧ ∀ H', Same H H' → E (.ref er.thing) none H'))
noncomputable def sp_Brackets__Family___init__ (_ : PySem.W.Frag) (ca : ClA) : Sp := fun vs H Q _ => ∃ (x dx : Addr) (w : Str) (l : Int), vs = [.ref x, .str w, .int l] ∧ H x = some (.ins ca.C_Brackets dx []) ∧ ∀ (fs : List (Str × V)) (H' : Hp), H' = upd H x (.ins ca.C_Brackets dx fs) → Flds fs w l → Q .non H'
noncomputable def sp_Brackets__SplitFamily___init__ (_ : PySem.W.Frag) (ca : ClA) : Sp := fun vs H Q _ => ∃ (x dx : Addr) (w : Str), vs = [.ref x, .str w] ∧ H x = some (.ins ca.C_Brackets dx []) ∧ ∀ (fs : List (Str × V)) (H' : Hp), H' = upd H x (.ins ca.C_Brackets dx fs) → Flds fs w 0 → Q .non H'
noncomputable def sp_Brackets____init__ (_ : PySem.W.Frag) (ca : ClA) : Sp := fun vs H Q _ => ∃ x dx, vs = [.ref x] ∧ H x = some (.ins ca.C_Brackets dx []) ∧ ∀ (fs : List (Str × V)) (H' : Hp), H' = upd H x (.ins ca.C_Brackets dx fs) → Flds fs "brackets" 0 → Q .non H'
noncomputable def sp_Stairs__Family___init__ (_ : PySem.W.Frag) (ca : ClA) : Sp := fun vs H Q _ => ∃ (x dx : Addr) (w : Str) (l : Int), vs = [.ref x, .str w, .int l] ∧ H x = some (.ins ca.C_Stairs dx []) ∧ ∀ (fs : List (Str × V)) (H' : Hp), H' = upd H x (.ins ca.C_Stairs dx fs) → Flds fs w l → Q .non H'
noncomputable def sp_Stairs__SplitFamily___init__ (_ : PySem.W.Frag) (ca : ClA) : Sp := fun vs H Q _ => ∃ (x dx : Addr) (w : Str), vs = [.ref x, .str w] ∧ H x = some (.ins ca.C_Stairs dx []) ∧ ∀ (fs : List (Str × V)) (H' : Hp), H' = upd H x (.ins ca.C_Stairs dx fs) → Flds fs w 0 → Q .non H'
noncomputable def sp_Stairs____init__ (_ : PySem.W.Frag) (ca : ClA) : Sp := fun vs H Q _ => ∃ x dx, vs = [.ref x] ∧ H x = some (.ins ca.C_Stairs dx []) ∧ ∀ (fs : List (Str × V)) (H' : Hp), H' = upd H x (.ins ca.C_Stairs dx fs) → Flds fs "stairs" 0 → Q .non H'
noncomputable def sp_Twins__Family___init__ (_ : PySem.W.Frag) (ca : ClA) : Sp := fun vs H Q _ => ∃ (x dx : Addr) (w : Str) (l : Int), vs = [.ref x, .str w, .int l] ∧ H x = some (.ins ca.C_Twins dx []) ∧ ∀ (fs : List (Str × V)) (H' : Hp), H' = upd H x (.ins ca.C_Twins dx fs) → Flds fs w l → Q .non H'
noncomputable def sp_Twins__SplitFamily___init__ (_ : PySem.W.Frag) (ca : ClA) : Sp := fun vs H Q _ => ∃ (x dx : Addr) (w : Str), vs = [.ref x, .str w] ∧ H x = some (.ins ca.C_Twins dx []) ∧ ∀ (fs : List (Str × V)) (H' : Hp), H' = upd H x (.ins ca.C_Twins dx fs) → Flds fs w 0 → Q .non H'
noncomputable def sp_Twins____init__ (_ : PySem.W.Frag) (ca : ClA) : Sp := fun vs H Q _ => ∃ x dx, vs = [.ref x] ∧ H x = some (.ins ca.C_Twins dx []) ∧ ∀ (fs : List (Str × V)) (H' : Hp), H' = upd H x (.ins ca.C_Twins dx fs) → Flds fs "twins" 0 → Q .non H'
noncomputable def sp__law_kin (K : PySem.W.Frag) (ca : ClA) : Sp := fun vs H Q _ => ∃ (w : Nat), vs = [.int (w : Int)] ∧ w ≤ 2 ∧
  ∀ (x dx : Addr) (fs : List (Str × V)) (wd : Str) (H' : Hp), Same H H' → (w = 0 → H' x = some (.ins ca.C_Brackets dx fs)) → (w = 1 → H' x = some (.ins ca.C_Stairs dx fs)) → (w = 2 → H' x = some (.ins ca.C_Twins dx fs)) → Flds fs wd 0 → Q (.ref x) H'
noncomputable def sp__law_classes (_ : PySem.W.Frag) (_ : ClA) (er : Errs) : Sp := fun vs H Q _ => ∃ (e c : Addr) (t : Str), vs = [.ref e] ∧ H e = some (excO e (.ref c)) ∧ ((c = er.size ∧ t = Str.ofString "size") ∨ (c = er.number ∧ t = Str.ofString "number") ∨ (c = er.thing ∧ t = Str.ofString "thing")) ∧
  ∀ (p : Addr) (H' : Hp), Same H H' → H p = none → H' p = some (.lst [.str t]) → Q (.ref p) H'
noncomputable def sp__law_refused (K : PySem.W.Frag) (ca : ClA) (er : Errs) : Sp := fun vs H Q _ => ∃ (w u : Nat) (v : V), vs = [.int (w : Int), .int (u : Int), v] ∧ u ≤ 2 ∧ ((w = 0 ∧ ∃ y : Str, v = .str y ∧ clo 0 y.cps.toList = false) ∨ (w = 1 ∧ ∃ (p : Addr) (rs : List Int), v = .ref p ∧ H p = some (.lst (rs.map V.int)) ∧ stF 0 0 rs = false)) ∧ ∀ H', Q (.bl true) H'
noncomputable def sp__law_whole (_ : PySem.W.Frag) (_ : ClA) : Sp := fun vs H Q _ => ∃ n : Int, vs = [.int n] ∧ Q (.bl true) H
noncomputable def sp__law_numbers (K : PySem.W.Frag) (_ : ClA) : Sp := fun vs H Q _ => ∃ (p r : Addr) (ns : List Int), vs = [.ref p, .ref r] ∧ H p = some (.lst (ns.map V.int)) ∧ H r = some (.lst (ns.map V.int)) ∧ ns.length ≤ 1000 ∧ Q (.bl true) H
noncomputable def sp__law_same_twins (K : PySem.W.Frag) (_ : ClA) (n : Nat) : Sp := fun vs H Q _ => ∃ (v u : V) (t : Bt), vs = [v, u] ∧ Tw H v t ∧ Tw H u t ∧ t.size = n ∧ n ≤ 40 ∧ Q (.bl true) H
noncomputable def spA__law_same_twins (K : PySem.W.Frag) (ca : ClA) : Sp := below 41 (fun n => sp__law_same_twins K ca n)
noncomputable def sp__law_same (K : PySem.W.Frag) (_ : ClA) : Sp := fun vs H Q _ => ∃ (w : Nat) (v u : V) (t : Bt), vs = [.int (w : Int), v, u] ∧ w ≤ 2 ∧ Th w H v t ∧ Th w H u t ∧ t.size ≤ 40 ∧ Q (.bl true) H
noncomputable def sp_law (K : PySem.W.Frag) (_ : ClA) (_ : Errs) : Sp := fun vs H Q _ => ∃ (a : Addr) (ns : List Int), vs = [.ref a] ∧ SqL K H a (ns.map V.int) ∧ ns.length ≤ 63 ∧ ∀ H', Q (.bl true) H'
section
variable {P : Program} {w : World} {K : PySem.W.Frag} {mg : Str → Option Value} {base : Heap}
theorem ok__law_cell_at {er : Errs} (EO : ErrOk K mg er) {ca : ClA} (CA : ClOk K mg ca) {f : Addr} {fd : FuncData} (F : Fun K "_law_cell_at" "_law_cell_at" s__law_cell_at f fd) (m_len : mg "len" = none) : FnOk P w K mg base CX0 1 f fd ["_law_script", "_law_k"] (sp__law_cell_at K ca) := by
  refine F.ok sc__law_cell_at (fun vs H Q E h => ?_) (fun cdv A outer s H vs Q E hr h => ?_)
  · obtain ⟨a, ns, k, rfl, hS, h0, q⟩ := h
    rfl
  obtain ⟨a, ns, k, rfl, hS, h0, q⟩ := h
  refine ⟨_, pss_cons (ps_if (pt_cmpR op_lt (pv 1) (pe_callB call_len_seq rfl m_len bb_len (pa_cons (pv 0) pa_nil)) (nomark _)) (pss_one (ps_ret (pe_ix ix_list (pv 0) (pv 1) (fun _ _ => rfl)))) pss_nil)
    (pss_one (ps_ret pe_int)), ?_⟩
  have hl : (ns.map V.int).length = ns.length := List.length_map _
  refine ⟨_, rfl, _, rfl, a, _, rfl, .inl hS, _, _, rfl, rfl, _, rfl, ite2 (fun c => ?_) (fun c => ?_)⟩
  · have c' : k < (((ns.map V.int).length : Nat) : Int) := of_decide_eq_true c
    rw [hl] at c'
    exact ⟨_, rfl, _, rfl, a, _, _, _, rfl, rfl, hS, atI_int h0 c', q⟩
  · have c' : ¬ k < (((ns.map V.int).length : Nat) : Int) := of_decide_eq_false (Bool.eq_false_iff.mpr c)
    rw [hl] at c'
    have e : ns.getD k.toNat 0 = 0 := by rw [List.getD_eq_getElem?_getD, List.getElem?_eq_none (by omega)]; rfl
    rw [e] at q
    exact q
theorem ok__law_mix {er : Errs} (EO : ErrOk K mg er) {ca : ClA} (CA : ClOk K mg ca) {f : Addr} {fd : FuncData} (F : Fun K "_law_mix" "_law_mix" s__law_mix f fd) : FnOk P w K mg base CX0 1 f fd ["_law_cell", "_law_turn"] (sp__law_mix K ca) := by
  refine F.ok sc__law_mix (fun vs H Q E h => ?_) (fun cdv A outer s H vs Q E hr h => ?_)
  · obtain ⟨c, t, rfl, h0, h1, q⟩ := h
    rfl
  obtain ⟨c, t, rfl, h0, h1, q⟩ := h
  refine ⟨_, pss_cons (ps_set (i := 2) sc__law_mix.nd rfl (Or.inl rfl) (pe_op op_mod (pe_op op_mul (pe_op op_add (pe_op op_add (pe_op op_mod (pv 0) pe_int) (pe_op op_mul (pe_op op_mul (pv 1) (pv 1)) pe_int)) pe_int) pe_int) pe_int))
    (pss_one (ps_ret (pe_op op_mod (pe_op op_add (pe_op op_mul (pv 2) (pv 2)) (pe_op op_mul pe_int (pv 1))) pe_int))), ?_⟩
  refine ⟨_, rfl, _, _, rfl, rfl, pm (by decide), _, rfl, _, rfl, _, _, rfl, rfl, .inl ⟨by omega, by omega⟩, _, _, rfl, rfl, .inr ⟨by decide, by decide⟩, _, _, rfl, rfl, _, _, rfl, rfl, _, _, rfl, rfl, .inr ⟨by decide, by decide⟩, _, _, rfl, rfl, pm (by decide), ?_⟩
  have b0 := Int.emod_nonneg ((c % 2147483647 + t * t * 7919 + 104729) * 48271) (show (2147483647 : Int) ≠ 0 by decide)
  have b1 := Int.emod_lt_of_pos ((c % 2147483647 + t * t * 7919 + 104729) * 48271) (show (0 : Int) < 2147483647 by decide)
  try dsimp only
  generalize (c % 2147483647 + t * t * 7919 + 104729) * 48271 % 2147483647 = n at *
  exact ⟨_, rfl, _, rfl, _, _, rfl, rfl, .inl ⟨by omega, by omega⟩, _, rfl, _, _, rfl, rfl, .inl ⟨by decide, by decide⟩, _, _, rfl, rfl, _, _, rfl, rfl, pm (by decide), q _ (Int.emod_nonneg _ (by decide)) (Int.emod_lt_of_pos _ (by decide))⟩
theorem ok__law_draws {er : Errs} (EO : ErrOk K mg er) {ca : ClA} (CA : ClOk K mg ca) {f : Addr} {fd : FuncData} (F : Fun K "_law_draws" "_law_draws" s__law_draws f fd) {f0 : Addr} {fd0 : FuncData} (d__law_mix : Def P w K mg base "_law_mix" ["_law_cell", "_law_turn"] 1 (sp__law_mix K ca) f0 fd0) (m_range : mg "range" = none) (m_len : mg "len" = none) : FnOk P w K mg base CX0 2 f fd ["_law_script", "_law_turn", "_law_many"] (sp__law_draws K ca) := by
  refine F.ok sc__law_draws (fun vs H Q E h => ?_) (fun cdv A outer s H vs Q E hr h => ?_)
  · obtain ⟨a, ns, t, m, rfl, hS, h63, t0, t1, m0, m1, q⟩ := h
    rfl
  obtain ⟨a, ns, t, m, rfl, hS, h63, t0, t1, m0, m1, q⟩ := h
  refine ⟨_, pss_cons (ps_set (i := 3) sc__law_draws.nd rfl (Or.inl rfl) (pe_op op_cat (pe_slice sl_list (pv 0) po_none (po_some pe_int)) (pe_lst (pa_cons (pv 1) pa_nil))))
    (pss_cons (ps_set (i := 4) sc__law_draws.nd rfl (Or.inl rfl) (pe_lst pa_nil))
    (pss_cons (ps_if (pt_cmpR op_eq (pe_op op_mod (pe_op op_fdivL (pe_ix ix_list (pv 3) pe_int (fun _ _ => rfl)) pe_int) pe_int) pe_int (nomark _)) (pss_cons (ps_setComp (i := 5) sc__law_draws.nd rfl (Or.inl rfl) rfl rfl (pi_list (pv 3)) rfl rfl rfl rfl (N := ["_law_cell"]) (.own .nil) (fun _ _ _ _ _ _ => (pg_name (i := 0) (by show List.Nodup (["_law_cell"] : List Str); decide +kernel) rfl (Or.inl rfl))) (fun _ _ _ _ _ _ => pts_nil) (fun _ _ _ _ _ _ => (pe_op op_fdivL (pv 0) pe_int)))
    (pss_cons (ps_for PassesOwn.never rfl (pi_range1 rfl m_range (pa_cons (pe_op op_add (pv 1) (pv 2)) pa_nil)) (pg_name (i := 6) sc__law_draws.nd rfl (Or.inl rfl)) (pss_cons (ps_set (i := 7) sc__law_draws.nd rfl (Or.inl rfl) (pe_op op_mod (pv 6) (pe_callB call_len_seq rfl m_len bb_len (pa_cons (pv 5) pa_nil))))
    (pss_cons (ps_expr (pe_bm PySem.F.plainAttrs_list PySem.F.slot_list_append PySem.F.type_list_append mt_append (pv 4) (pa_cons (pe_op op_mod (pe_ix ix_list (pv 5) (pv 7) (fun _ _ => rfl)) pe_int) pa_nil)))
    (pss_one (ps_asg (pe_op op_fdivL (pe_ix ix_list (pv 5) (pv 7) (fun _ _ => rfl)) pe_int) (pg_sub (pv 5) (pv 7) set_list))))))
    (pss_one (ps_ret (pe_slice sl_list (pv 4) (po_some (pv 1)) po_none))))) pss_nil)
    (pss_cons (ps_for PassesOwn.never rfl (pi_range1 rfl m_range (pa_cons (pv 2) pa_nil)) (pg_name (i := 6) sc__law_draws.nd rfl (Or.inl rfl)) (pss_cons (ps_set (i := 8) sc__law_draws.nd rfl (Or.inl rfl) (pcall d__law_mix hr (pa_cons (pe_ix ix_list (pv 3) (pe_op op_mod (pv 6) (pe_callB call_len_seq rfl m_len bb_len (pa_cons (pv 3) pa_nil))) (fun _ _ => rfl)) (pa_cons (pe_op op_add (pv 6) (pv 1)) pa_nil))))
    (pss_one (ps_expr (pe_bm PySem.F.plainAttrs_list PySem.F.slot_list_append PySem.F.type_list_append mt_append (pv 4) (pa_cons (pe_op op_mod (pe_op op_add (pe_op op_mul (pv 8) (pv 8)) (pe_op op_mul pe_int (pv 6))) pe_int) pa_nil))))))
    (pss_one (ps_ret (pv 4)))))), ?_⟩
  have M : ∀ x : Int, 0 ≤ x % 2147483587 ∧ x % 2147483587 < 2147483587 := fun x => ⟨Int.emod_nonneg x (by decide), Int.emod_lt_of_pos x (by decide)⟩
  refine ⟨_, rfl, _, rfl, a, _, rfl, hS, fun p1 hp1 => ⟨_, rfl, (by show 1 ≤ sizeLine; decide), fun p2 hp2 => ?_⟩⟩
  have n12 : p1 ≠ p2 := ne_of_none upd_same hp2
  have s1 := Same.new (Same.refl H) hp1 (.lst (cutV (ns.map V.int) none (some 63)))
  have s2 := Same.new s1 hp2 (.lst [.int t])
  have lc : (cutI ns none (some 63)).length ≤ 63 := Nat.le_trans (cutI_length _ _ _) h63
  refine ⟨p1, p2, _, _, rfl, rfl, (upd_ne n12).trans upd_same, upd_same, ?_, fun pc hpc => ?_⟩
  · rw [cutV_map, List.length_map]; exact sz (by simp; omega)
  have s3 := Same.new s2 hpc (.lst (cutV (ns.map V.int) none (some 63) ++ [.int t]))
  have ecs : cutV (ns.map V.int) none (some 63) ++ [.int t] = (cutI ns none (some 63) ++ [t]).map V.int := by rw [cutV_map, List.map_append]; rfl
  have lcs : 1 ≤ (cutI ns none (some 63) ++ [t]).length ∧ (cutI ns none (some 63) ++ [t]).length ≤ 64 := by rw [List.length_append]; constructor <;> simp <;> omega
  rw [ecs] at s3 ⊢
  generalize hH3 : upd (upd (upd H p1 (.lst (cutV (ns.map V.int) none (some 63)))) p2 (.lst [.int t])) pc (.lst ((cutI ns none (some 63) ++ [t]).map V.int)) = H3 at s3 ⊢
  have hc3 : H3 pc = some (.lst ((cutI ns none (some 63) ++ [t]).map V.int)) := by rw [← hH3]; exact upd_same
  generalize cutI ns none (some 63) ++ [t] = cs at hc3 lcs ⊢
  refine ⟨Nat.zero_le _, fun pf hpf => ?_⟩
  have s4 := Same.new s3 hpf (.lst [])
  have fpf : H pf = none := s3.free hpf
  have ncf : pc ≠ pf := ne_of_none hc3 hpf
  have hc4 : upd H3 pf (.lst []) pc = some (.lst (cs.map V.int)) := (upd_ne ncf).trans hc3
  have hf4 : upd H3 pf (.lst []) pf = some (.lst (([] : List Int).map V.int)) := upd_same
  generalize upd H3 pf (.lst []) = H4 at s4 hc4 hf4 ⊢
  have at0 := atI_int (ns := cs) (i := 0) (by decide) (by omega)
  have lm : (cs.map V.int).length = cs.length := List.length_map _
  refine ⟨_, rfl, pc, _, _, _, rfl, rfl, SqL.of hc4, at0, _, _, rfl, rfl, ⟨by decide, by decide +kernel⟩, _, _, rfl, rfl, pm (by decide), rfl, _, rfl, ite2 (fun _ => ?_) (fun _ => ?_)⟩
  · refine ⟨_, rfl, pc, rfl, ⟨_, SqL.of hc4⟩, fun D hD => comp_list (fun v => match v with | .int c => .int (c / 100000) | v => v) (by rw [lm]; exact sz (by omega)) (SqL.of hc4) hD (fun i x H' R R0 hx hb hR => ?_) ?_⟩
    · obtain ⟨c, rfl⟩ := get_int hx
      exact ⟨Ext.set rfl, ttN (iteT ⟨_, rfl, _, _, rfl, rfl, ⟨by decide, by decide +kernel⟩, hR⟩)⟩
    · have fD : H D = none := s4.free hD
      have nfD : pf ≠ D := ne_of_none hf4 hD
      have el : (cs.map V.int).map (fun v => match v with | .int c => V.int (c / 100000) | v => v) = (cs.map (· / 100000)).map V.int := by rw [List.map_map, List.map_map]; rfl
      rw [el]
      refine ⟨_, rfl, _, rfl, _, _, rfl, rfl, _, rfl, by omega, by omega, for_range (lo := 0) (n := (t + m).toNat) (fun i σ H' => ∃ (o1 o2 o3 : Option V) (ls fs : List Int), σ = [some (.ref a), some (.int t), some (.int m), some (.ref pc), some (.ref pf), some (.ref D), o1, o2, o3] ∧ Same H H' ∧ H' D = some (.lst (ls.map V.int)) ∧ ls.length = cs.length ∧ H' pf = some (.lst (fs.map V.int)) ∧ fs.length = i ∧ ∀ x ∈ fs, 0 ≤ x ∧ x < 2147483587)
        ⟨_, _, _, _, [], rfl, Same.new s4 hD _, upd_same, by simp, (upd_ne nfD).trans hf4, rfl, by simp⟩ ?_ ?_⟩
      · rintro i σ H5 hi ⟨o1, o2, o3, ls, fs, rfl, sm, hl, ll, hf, lf, bf⟩
        have lml : (ls.map V.int).length = ls.length := List.length_map _
        have pos : (0 : Int) < (((ls.map V.int).length : Nat) : Int) := by rw [lml]; omega
        have k0 := Int.emod_nonneg ((0 : Int) + (i : Int)) (show (((ls.map V.int).length : Nat) : Int) ≠ 0 by omega)
        have k1 := Int.emod_lt_of_pos ((0 : Int) + (i : Int)) pos
        refine ⟨_, rfl, _, rfl, D, _, rfl, .inl (SqL.of hl), _, _, rfl, rfl, pos, ?_⟩
        try dsimp only
        generalize ((0 : Int) + (i : Int)) % (((ls.map V.int).length : Nat) : Int) = k at k0 k1 ⊢
        rw [lml] at k1
        have atk := atI_int (ns := ls) (i := k) k0 k1
        refine ⟨_, rfl, .inl ⟨rfl, _, SqL.of hf⟩, _, rfl, _, rfl, D, _, _, _, rfl, rfl, SqL.of hl, atk, _, _, rfl, rfl, pm (by decide), pf, _, _, rfl, rfl, hf, by rw [List.length_map]; exact sz' (by omega), ?_⟩
        have hl6 : upd H5 pf (.lst (fs.map V.int ++ [.int (ls.getD k.toNat 0 % 2147483587)])) D = some (.lst (ls.map V.int)) := (upd_ne (Ne.symm nfD)).trans hl
        refine ⟨_, rfl, _, rfl, D, _, _, _, rfl, rfl, SqL.of hl6, atk, _, _, rfl, rfl, ⟨by decide, by decide +kernel⟩, _, rfl, _, rfl, D, _, _, _, rfl, rfl, hl6, ixN_nat k0 (by rw [lml]; exact k1), ?_⟩
        refine ⟨_, _, _, ls.set k.toNat (ls.getD k.toNat 0 / 2147483587), fs ++ [ls.getD k.toNat 0 % 2147483587], rfl, (sm.upd fpf _).upd fD _, ?_, by simpa using ll, ?_, by simp [lf], ?_⟩
        · rw [upd_same, List.map_set]
        · rw [upd_ne nfD, upd_same, List.map_append]; rfl
        · intro x hx
          rcases List.mem_append.mp hx with z | z
          · exact bf x z
          · have : x = ls.getD k.toNat 0 % 2147483587 := by simpa using z
            rw [this]; exact M _
      · rintro σ H5 ⟨o1, o2, o3, ls, fs, rfl, sm, hl, ll, hf, lf, bf⟩
        refine ⟨_, rfl, _, rfl, _, rfl, pf, _, rfl, SqL.of hf, fun pr hpr => ?_⟩
        rw [cutV_map, cutI_from fs t0]
        refine q pr (fs.drop t.toNat) _ (Same.new sm hpr _) (sm.free hpr) upd_same ?_ fun x hx => bf x (List.mem_of_mem_drop hx)
        rw [List.length_drop, lf]; omega
  · refine ⟨_, rfl, _, rfl, by omega, by omega, for_range (lo := 0) (n := m.toNat) (fun i σ H' => ∃ (o1 o2 o3 o4 : Option V) (fs : List Int), σ = [some (.ref a), some (.int t), some (.int m), some (.ref pc), some (.ref pf), o1, o2, o3, o4] ∧ Same H H' ∧ H' pc = some (.lst (cs.map V.int)) ∧ H' pf = some (.lst (fs.map V.int)) ∧ fs.length = i ∧ ∀ x ∈ fs, 0 ≤ x ∧ x < 2147483587)
      ⟨_, _, _, _, [], rfl, s4, hc4, hf4, rfl, by simp⟩ ?_ ?_⟩
    · rintro i σ H5 hi ⟨o1, o2, o3, o4, fs, rfl, sm, hc, hf, lf, bf⟩
      have pos : (0 : Int) < (((cs.map V.int).length : Nat) : Int) := by rw [lm]; omega
      have k0 := Int.emod_nonneg ((0 : Int) + (i : Int)) (show (((cs.map V.int).length : Nat) : Int) ≠ 0 by omega)
      have k1 := Int.emod_lt_of_pos ((0 : Int) + (i : Int)) pos
      have atk := atI_int (ns := cs) (i := ((0 : Int) + (i : Int)) % (((cs.map V.int).length : Nat) : Int)) k0 (by rw [← lm]; exact k1)
      refine ⟨_, rfl, _, rfl, _, rfl, pc, _, rfl, .inl (SqL.of hc), _, _, rfl, rfl, pos, pc, _, _, _, rfl, rfl, SqL.of hc, atk, _, rfl, _, rfl, _, _, rfl, rfl, _, _, rfl, by omega, by omega, fun x x0 x1 => ?_⟩
      refine ⟨_, rfl, .inl ⟨rfl, _, SqL.of hf⟩, _, rfl, _, rfl, _, _, rfl, rfl, .inl ⟨by omega, by omega⟩, _, rfl, _, _, rfl, rfl, .inl ⟨by decide, by decide⟩, _, _, rfl, rfl, _, _, rfl, rfl, pm (by decide), pf, _, _, rfl, rfl, hf, by rw [List.length_map]; exact sz' (by omega), ?_⟩
      refine ⟨_, _, _, _, fs ++ [(x * x + 7 * ((0 : Int) + (i : Int))) % 2147483587], rfl, sm.upd fpf _, (upd_ne ncf).trans hc, ?_, by simp [lf], ?_⟩
      · rw [upd_same, List.map_append]; rfl
      · intro y hy
        rcases List.mem_append.mp hy with z | z
        · exact bf y z
        · have : y = (x * x + 7 * ((0 : Int) + (i : Int))) % 2147483587 := by simpa using z
          rw [this]; exact M _
    · rintro σ H5 ⟨o1, o2, o3, o4, fs, rfl, sm, hc, hf, lf, bf⟩
      exact ⟨_, rfl, q pf fs H5 sm fpf hf lf bf⟩
theorem ok__law_text_by {er : Errs} (EO : ErrOk K mg er) {ca : ClA} (CA : ClOk K mg ca) {f : Addr} {fd : FuncData} (F : Fun K "_law_text_by" "_law_text_by" s__law_text_by f fd) {f0 : Addr} {fd0 : FuncData} (d__law_draws : Def P w K mg base "_law_draws" ["_law_script", "_law_turn", "_law_many"] 2 (sp__law_draws K ca) f0 fd0) (m_range : mg "range" = none) : FnOk P w K mg base CX0 3 f fd ["_law_script", "_law_size", "_law_turn"] (sp__law_text_by K ca) := by
  refine F.ok sc__law_text_by (fun vs H Q E h => ?_) (fun cdv A outer s H vs Q E hr h => ?_)
  · obtain ⟨a, ns, n, t, rfl, hS, h63, n0, n1, t0, t1, q⟩ := h
    rfl
  obtain ⟨a, ns, n, t, rfl, hS, h63, n0, n1, t0, t1, q⟩ := h
  refine ⟨_, pss_cons (ps_set (i := 3) sc__law_text_by.nd rfl (Or.inl rfl) (pcall d__law_draws hr (pa_cons (pv 0) (pa_cons (pv 2) (pa_cons pe_int pa_nil)))))
    (pss_cons (ps_set (i := 4) sc__law_text_by.nd rfl (Or.inl rfl) (pe_op op_mod (pe_ix ix_list (pv 3) pe_int (fun _ _ => rfl)) pe_int))
    (pss_cons (ps_set (i := 5) sc__law_text_by.nd rfl (Or.inl rfl) (pe_lst pa_nil))
    (pss_cons (ps_set (i := 6) sc__law_text_by.nd rfl (Or.inl rfl) pe_int)
    (pss_cons (ps_for PassesOwn.never rfl (pi_range1 rfl m_range (pa_cons (pe_op op_mul pe_int (pv 1)) pa_nil)) (pg_name (i := 7) sc__law_text_by.nd rfl (Or.inl rfl)) (pss_cons (ps_set (i := 8) sc__law_text_by.nd rfl (Or.inl rfl) (pe_op op_sub (pe_op op_mul pe_int (pv 6)) (pv 7)))
    (pss_cons (ps_set (i := 9) sc__law_text_by.nd rfl (Or.inl rfl) (pe_cmpR op_eq (pe_op op_mod (pe_ix ix_list (pv 3) (pv 7) (fun _ _ => rfl)) pe_int) pe_int (nomark _)))
    (pss_cons (ps_if (pt_cmpR op_eq (pv 4) pe_int (nomark _)) (pss_one (ps_set (i := 9) sc__law_text_by.nd rfl (Or.inl rfl) (pe_cmpR op_gt (pe_op op_mod (pe_ix ix_list (pv 3) (pv 7) (fun _ _ => rfl)) pe_int) pe_int (nomark _)))) pss_nil)
    (pss_cut (ps_if (pt_cmpR op_eq (pv 4) pe_int (nomark _)) (pss_one (ps_set (i := 9) sc__law_text_by.nd rfl (Or.inl rfl) (pe_cmpR op_eq (pe_op op_mod (pe_ix ix_list (pv 3) (pv 7) (fun _ _ => rfl)) pe_int) pe_int (nomark _)))) pss_nil)
    (pss_one (ps_if (PW.pt (pw_and (pt_cmpR op_lt (pv 6) (pv 1) (nomark _)) (pw_and1 (PW.pt (pw_or (pt_cmpR op_eq (pv 8) pe_int (nomark _)) (pw_or1 (pt_val (pv 9)))))))) (pss_cons (ps_expr (pe_bm PySem.F.plainAttrs_list PySem.F.slot_list_append PySem.F.type_list_append mt_append (pv 5) (pa_cons pe_str pa_nil)))
    (pss_one (ps_set (i := 6) sc__law_text_by.nd rfl (Or.inl rfl) (pe_op op_add (pv 6) pe_int)))) (pss_one (ps_expr (pe_bm PySem.F.plainAttrs_list PySem.F.slot_list_append PySem.F.type_list_append mt_append (pv 5) (pa_cons pe_str pa_nil)))))))))))
    (pss_one (ps_ret (pe_bm PySem.F.plainAttrs_str PySem.F.slot_str_join PySem.F.type_str_join mt_join pe_str (pa_cons (pv 5) pa_nil)))))))), ?_⟩
  refine ⟨_, rfl, _, rfl, a, ns, t, 81, rfl, hS, h63, t0, t1, by decide, by decide, fun pd xs H1 sm1 fd hd lx bx => ?_⟩
  have lx' : xs.length = 81 := lx
  have at80 := atI_int (ns := xs) (i := 80) (by decide) (by omega)
  refine ⟨_, rfl, pd, _, _, _, rfl, rfl, SqL.of hd, at80, _, _, rfl, rfl, pm (by decide), ?_⟩
  try dsimp only
  generalize xs.getD (80 : Int).toNat 0 % 4 = e
  refine ⟨Nat.zero_le _, fun ps hps => ?_⟩
  have nps : pd ≠ ps := ne_of_none hd hps
  have fps : H ps = none := sm1.free hps
  refine ⟨_, rfl, _, _, rfl, rfl, .inl ⟨by decide, by decide⟩, _, rfl, by omega, by omega, for_range (lo := 0) (n := (2 * n).toNat) (fun i σ H' => ∃ (o1 o2 o3 : Option V) (l : List Nat) (u h : Nat), σ = [some (.ref a), some (.int n), some (.int t), some (.ref pd), some (.int e), some (.ref ps), some (.int u), o1, o2, o3] ∧ Same H H' ∧ H' pd = some (.lst (xs.map V.int)) ∧ H' ps = some (.lst (l.map sgn)) ∧ Beg n.toNat l i u h)
    ⟨_, _, _, [], 0, 0, rfl, Same.new sm1 hps _, (upd_ne nps).trans hd, upd_same, ⟨rfl, rfl, Nat.zero_le _, fun t => rfl⟩⟩ ?_ ?_⟩
  · rintro i σ H5 hi ⟨o1, o2, o3, l, u, h, rfl, sm, hd5, hl, bg⟩
    have atk := atI_int (ns := xs) (i := (0 : Int) + (i : Int)) (by omega) (by omega)
    have bal := bg.bal
    have le := bg.le
    have ll := bg.len
    have lmap : (l.map sgn).length < sizeLine := by rw [List.length_map]; exact sz' (by omega)
    refine ⟨_, rfl, _, _, rfl, rfl, .inl ⟨by decide, by decide⟩, _, rfl, _, _, rfl, rfl, ?_⟩
    refine ⟨_, rfl, _, rfl, pd, _, _, _, rfl, rfl, SqL.of hd5, atk, _, _, rfl, rfl, pm (by decide), rfl, ?_⟩
    -- what the turn goes on with
    let P : L2.St → Hp → Prop := fun σ' H' => H' = H5 ∧ ∃ b : Bool, σ' = [some (.ref a), some (.int n), some (.int t), some (.ref pd), some (.int e), some (.ref ps), some (.int u), some (.int ((0 : Int) + (i : Int))), some (.int (2 * (u : Int) - ((0 : Int) + (i : Int)))), some (.bl b)]
    refine ⟨_, rfl, rfl, _, rfl, ite2 (fun _ => ⟨_, rfl, _, rfl, pd, _, _, _, rfl, rfl, SqL.of hd5, atk, _, _, rfl, rfl, pm (by decide), _, _, rfl, rfl, P, ?_, ?_⟩) (fun _ => ⟨P, ?_, ?_⟩)⟩
    case refine_1 => exact ⟨_, rfl, rfl, _, rfl, ite2 (fun _ => ⟨_, rfl, _, rfl, pd, _, _, _, rfl, rfl, SqL.of hd5, atk, _, _, rfl, rfl, pm (by decide), rfl, rfl, _, rfl⟩) (fun _ => ⟨rfl, _, rfl⟩)⟩
    case refine_3 => exact ⟨_, rfl, rfl, _, rfl, ite2 (fun _ => ⟨_, rfl, _, rfl, pd, _, _, _, rfl, rfl, SqL.of hd5, atk, _, _, rfl, rfl, pm (by decide), rfl, rfl, _, rfl⟩) (fun _ => ⟨rfl, _, rfl⟩)⟩
    all_goals
      rintro σ' H' ⟨rfl, b, rfl⟩
      refine ⟨_, rfl, _, rfl, _, _, rfl, rfl, _, rfl, ?_⟩
      by_cases hu : (u : Int) < n
      · refine iteP hu ⟨_, rfl, rfl, _, rfl, ?_⟩
        by_cases hh : h = 0
        · refine iteP (congrArg V.int (by omega)) (iteT ⟨_, rfl, .inl ⟨rfl, _, SqL.of hl⟩, ps, _, _, rfl, rfl, hl, lmap, _, rfl, _, _, rfl, rfl, ?_⟩)
          exact ⟨_, _, _, l ++ [40], u + 1, h + 1, rfl, sm.upd fps _, (upd_ne nps).trans hd5, by rw [upd_same, List.map_append, sgn40]; rfl, bg.up (by omega)⟩
        · obtain ⟨h', rfl⟩ : ∃ h', h = h' + 1 := ⟨h - 1, by omega⟩
          refine iteN (fun z => by injection z with z; omega) ⟨_, rfl, _, rfl, ?_⟩
          cases b with
          | true =>
            refine iteT ⟨_, rfl, .inl ⟨rfl, _, SqL.of hl⟩, ps, _, _, rfl, rfl, hl, lmap, _, rfl, _, _, rfl, rfl, ?_⟩
            exact ⟨_, _, _, l ++ [40], u + 1, h' + 1 + 1, rfl, sm.upd fps _, (upd_ne nps).trans hd5, by rw [upd_same, List.map_append, sgn40]; rfl, bg.up (by omega)⟩
          | false =>
            refine iteF ⟨_, rfl, .inl ⟨rfl, _, SqL.of hl⟩, ps, _, _, rfl, rfl, hl, lmap, ?_⟩
            exact ⟨_, _, _, l ++ [41], u, h', rfl, sm.upd fps _, (upd_ne nps).trans hd5, by rw [upd_same, List.map_append, sgn41]; rfl, bg.down⟩
      · obtain ⟨h', rfl⟩ : ∃ h', h = h' + 1 := ⟨h - 1, by omega⟩
        refine iteN hu (iteF ⟨_, rfl, .inl ⟨rfl, _, SqL.of hl⟩, ps, _, _, rfl, rfl, hl, lmap, ?_⟩)
        exact ⟨_, _, _, l ++ [41], u, h', rfl, sm.upd fps _, (upd_ne nps).trans hd5, by rw [upd_same, List.map_append, sgn41]; rfl, bg.down⟩
  · rintro σ H5 ⟨o1, o2, o3, l, u, h, rfl, sm, hd5, hl, bg⟩
    have bal := bg.bal
    have le := bg.le
    have ll := bg.len
    have hz : h = 0 := by omega
    subst hz
    refine ⟨rfl, _, rfl, _, ps, l.map mkS, rfl, rfl, SqL.of (by rw [hl, map_sgn]), ?_, ?_⟩
    · rw [sum_mkS]
      have e0 : (Str.ofString "").length = 0 := by decide +kernel
      show l.length + (l.map mkS).length * (Str.ofString "").length ≤ 16777216
      rw [e0, Nat.mul_zero]
      omega
    · refine q _ H5 sm ?_ ?_
      · rw [join_sgn]
        have := bg.clo []
        rw [List.append_nil] at this
        rw [this]; rfl
      · rw [len_of_codes (join_sgn l), ll]; omega
theorem ok__law_spoiled_text {er : Errs} (EO : ErrOk K mg er) {ca : ClA} (CA : ClOk K mg ca) {f : Addr} {fd : FuncData} (F : Fun K "_law_spoiled_text" "_law_spoiled_text" s__law_spoiled_text f fd) {f0 : Addr} {fd0 : FuncData} (d__law_mix : Def P w K mg base "_law_mix" ["_law_cell", "_law_turn"] 1 (sp__law_mix K ca) f0 fd0) (m_len : mg "len" = none) (m_list : mg "list" = none) : FnOk P w K mg base CX0 2 f fd ["_law_text", "_law_cell"] (sp__law_spoiled_text K ca) := by
  refine F.ok sc__law_spoiled_text (fun vs H Q E h => ?_) (fun cdv A outer s H vs Q E hr h => ?_)
  · obtain ⟨t, c, rfl, h0, hz, q⟩ := h
    rfl
  obtain ⟨t, c, rfl, h0, hz, q⟩ := h
  refine ⟨_, pss_cons (ps_set (i := 2) sc__law_spoiled_text.nd rfl (Or.inl rfl) (pcall d__law_mix hr (pa_cons (pv 1) (pa_cons pe_int pa_nil))))
    (pss_cons (ps_set (i := 3) sc__law_spoiled_text.nd rfl (Or.inl rfl) (pe_op op_mod (pv 2) (pe_callB call_len_str rfl m_len bb_len (pa_cons (pv 0) pa_nil))))
    (pss_cons (ps_set (i := 4) sc__law_spoiled_text.nd rfl (Or.inl rfl) (pe_op op_mod (pe_op op_fdivL (pv 2) pe_int) (pe_callB call_len_str rfl m_len bb_len (pa_cons (pv 0) pa_nil))))
    (pss_cons (ps_set (i := 5) sc__law_spoiled_text.nd rfl (Or.inl rfl) (pe_op op_mod (pv 1) pe_int))
    (pss_cons (ps_if (pt_cmpR op_eq (pv 5) pe_int (nomark _)) (pss_one (ps_ret (pe_op op_add_str (pe_op op_add_str (pe_slice sl_str (pv 0) po_none (po_some (pv 3))) (pe_ix ix_str pe_str (pe_op op_mod (pe_op op_fdivL (pv 2) pe_int) pe_int) (fun _ _ => rfl))) (pe_slice sl_str (pv 0) (po_some (pv 3)) po_none)))) pss_nil)
    (pss_cons (ps_if (pt_cmpR op_eq (pv 5) pe_int (nomark _)) (pss_one (ps_ret (pe_op op_add_str (pe_op op_add_str (pe_slice sl_str (pv 0) po_none (po_some (pv 3))) (pe_ix ix_str pe_str (pe_op op_mod (pe_op op_fdivL (pv 2) pe_int) pe_int) (fun _ _ => rfl))) (pe_slice sl_str (pv 0) (po_some (pe_op op_add (pv 3) pe_int)) po_none)))) pss_nil)
    (pss_cons (ps_if (pt_cmpR op_eq (pv 5) pe_int (nomark _)) (pss_one (ps_ret (pe_op op_add_str (pe_op op_add_str (pe_slice sl_str (pv 0) po_none (po_some (pv 3))) pe_str) (pe_slice sl_str (pv 0) (po_some (pv 3)) po_none)))) pss_nil)
    (pss_cons (ps_set (i := 6) sc__law_spoiled_text.nd rfl (Or.inl rfl) (pe_callTy (call_listS rfl) rfl m_list bb_list (pa_cons (pv 0) pa_nil)))
    (pss_cons (ps_asg (pe_ix ix_str (pv 0) (pv 4) (fun _ _ => rfl)) (pg_sub (pv 6) (pv 3) set_list))
    (pss_cons (ps_asg (pe_ix ix_str (pv 0) (pv 3) (fun _ _ => rfl)) (pg_sub (pv 6) (pv 4) set_list))
    (pss_one (ps_ret (pe_bm PySem.F.plainAttrs_str PySem.F.slot_str_join PySem.F.type_str_join mt_join pe_str (pa_cons (pv 6) pa_nil))))))))))))), ?_⟩
  have lz : t.length ≤ sizeLine := sz (by omega)
  refine ⟨_, rfl, c, 61, rfl, by decide, by decide, fun m m0 m1 => ?_⟩
  refine ⟨_, rfl, _, rfl, t, rfl, lz, _, _, rfl, rfl, by omega, ?_⟩
  have a0 := Int.emod_nonneg m (show (t.length : Int) ≠ 0 by omega)
  have a1 := Int.emod_lt_of_pos m (show (0 : Int) < (t.length : Int) by omega)
  try dsimp only
  generalize m % (t.length : Int) = k at a0 a1 ⊢
  refine ⟨_, rfl, _, _, rfl, rfl, ⟨by decide, by decide +kernel⟩, _, rfl, t, rfl, lz, _, _, rfl, rfl, by omega, ?_⟩
  have b0 := Int.emod_nonneg (m / 97) (show (t.length : Int) ≠ 0 by omega)
  have b1 := Int.emod_lt_of_pos (m / 97) (show (0 : Int) < (t.length : Int) by omega)
  try dsimp only
  generalize m / 97 % (t.length : Int) = j at b0 b1 ⊢
  refine ⟨_, rfl, _, _, rfl, rfl, pm (by decide), ?_⟩
  try dsimp only
  generalize c % 4 = w
  have l1 := Txt.slice_le t none (some k)
  have l2 := Txt.slice_le t (some k) none
  have l3 := Txt.slice_le t (some (k + 1)) none
  have four : ∀ z : Str, z.length = 4 → ∃ d, atI z.cps.toList (m / 9973 % 4) = some d := fun z hz => by
    obtain ⟨d, hd⟩ := at_text (z := z) (m := m / 9973) (by omega)
    rw [hz] at hd
    exact ⟨d, hd⟩
  obtain ⟨d1, hd1⟩ := four (Str.ofString "()x ") (by decide +kernel)
  obtain ⟨d2, hd2⟩ := four (Str.ofString "x )(") (by decide +kernel)
  refine ⟨_, rfl, rfl, _, rfl, ite2 (fun _ => ?_) (fun _ => ?_)⟩
  · refine ⟨_, rfl, _, rfl, _, rfl, t, rfl, lz, _, rfl, _, _, rfl, rfl, ⟨by decide, by decide +kernel⟩, _, _, rfl, rfl, pm (by decide), _, _, d1, rfl, rfl, by decide +kernel, hd1, _, _, rfl, rfl, ?_, _, rfl, _, rfl, _, rfl, t, rfl, lz, _, _, rfl, rfl, ?_, q _ _ (Same.refl H)⟩
    · show (Txt.slice t none (some k)).length + 1 ≤ sizeLine
      exact sz (by omega)
    · rw [app_length]
      show (Txt.slice t none (some k)).length + 1 + (Txt.slice t (some k) none).length ≤ sizeLine
      exact sz (by omega)
  refine ⟨_, rfl, rfl, _, rfl, ite2 (fun _ => ?_) (fun _ => ?_)⟩
  · refine ⟨_, rfl, _, rfl, _, rfl, t, rfl, lz, _, rfl, _, _, rfl, rfl, ⟨by decide, by decide +kernel⟩, _, _, rfl, rfl, pm (by decide), _, _, d2, rfl, rfl, by decide +kernel, hd2, _, _, rfl, rfl, ?_, _, rfl, _, rfl, _, _, rfl, rfl, _, rfl, t, rfl, lz, _, _, rfl, rfl, ?_, q _ _ (Same.refl H)⟩
    · show (Txt.slice t none (some k)).length + 1 ≤ sizeLine
      exact sz (by omega)
    · rw [app_length]
      show (Txt.slice t none (some k)).length + 1 + (Txt.slice t (some (k + 1)) none).length ≤ sizeLine
      exact sz (by omega)
  refine ⟨_, rfl, rfl, _, rfl, ite2 (fun _ => ?_) (fun _ => ?_)⟩
  · have e2 : (Str.ofString ")(").length = 2 := by decide +kernel
    refine ⟨_, rfl, _, rfl, _, rfl, t, rfl, lz, _, _, rfl, rfl, ?_, _, rfl, _, rfl, _, rfl, t, rfl, lz, _, _, rfl, rfl, ?_, q _ _ (Same.refl H)⟩
    · rw [e2]; exact sz (by omega)
    · rw [app_length, e2]; exact sz (by omega)
  refine ⟨_, rfl, t, rfl, lz, fun p hp => ?_⟩
  have s1 := Same.new (Same.refl H) hp (.lst (t.cps.toList.map sgn))
  have ha : ∀ i : Int, 0 ≤ i → i < (t.length : Int) → atI t.cps.toList i = some (t.cps.toList.getD i.toNat 0) := fun i h1 h2 => by
    have hk : i.toNat < t.cps.toList.length := by rw [cps_len]; omega
    refine at_code h1 ?_
    rw [List.getD_eq_getElem?_getD, List.getElem?_eq_getElem hk]; rfl
  have e1 : (t.cps.toList.map sgn).length = t.length := by rw [List.length_map, cps_len]
  have ms : ∀ (l : List Nat) (i d : Nat), (l.map sgn).set i (.str ⟨#[d]⟩) = (l.set i d).map sgn := fun l i d => by rw [List.map_set]; rfl
  refine ⟨_, rfl, _, rfl, t, _, _, rfl, rfl, lz, ha j b0 b1, _, rfl, _, rfl, p, _, _, _, rfl, rfl, upd_same, ixN_nat a0 (by rw [e1]; exact a1), ?_⟩
  rw [ms, upd_upd]
  have e3 : ((t.cps.toList.set k.toNat (t.cps.toList.getD j.toNat 0)).map sgn).length = t.length := by rw [List.length_map, List.length_set, cps_len]
  refine ⟨_, rfl, _, rfl, t, _, _, rfl, rfl, lz, ha k a0 a1, _, rfl, _, rfl, p, _, _, _, rfl, rfl, upd_same, ixN_nat b0 (by rw [e3]; exact b1), ?_⟩
  rw [ms, upd_upd]
  generalize hls : (t.cps.toList.set k.toNat (t.cps.toList.getD j.toNat 0)).set j.toNat (t.cps.toList.getD k.toNat 0) = ls
  have lls : ls.length = t.length := by rw [← hls, List.length_set, List.length_set, cps_len]
  refine ⟨rfl, _, rfl, _, p, ls.map mkS, rfl, rfl, SqL.of (by rw [upd_same, map_sgn]), ?_, ?_⟩
  · rw [sum_mkS]
    have e0 : (Str.ofString "").length = 0 := by decide +kernel
    show ls.length + (ls.map mkS).length * (Str.ofString "").length ≤ 16777216
    rw [e0, Nat.mul_zero]
    omega
  · exact q _ _ (Same.new (Same.refl H) hp _)
theorem ok__law_spoiled_row {er : Errs} (EO : ErrOk K mg er) {ca : ClA} (CA : ClOk K mg ca) {f : Addr} {fd : FuncData} (F : Fun K "_law_spoiled_row" "_law_spoiled_row" s__law_spoiled_row f fd) {f0 : Addr} {fd0 : FuncData} (d__law_mix : Def P w K mg base "_law_mix" ["_law_cell", "_law_turn"] 1 (sp__law_mix K ca) f0 fd0) (m_len : mg "len" = none) : FnOk P w K mg base CX0 2 f fd ["_law_row", "_law_cell", "_law_far"] (sp__law_spoiled_row K ca) := by
  refine F.ok sc__law_spoiled_row (fun vs H Q E h => ?_) (fun cdv A outer s H vs Q E hr h => ?_)
  · obtain ⟨p, rs, c, f, rfl, hp, l0, l41, q⟩ := h
    rfl
  obtain ⟨p, rs, c, f, rfl, hp, l0, l41, q⟩ := h
  refine ⟨_, pss_cons (ps_set (i := 3) sc__law_spoiled_row.nd rfl (Or.inl rfl) (pe_op op_mod (pcall d__law_mix hr (pa_cons (pv 1) (pa_cons pe_int pa_nil))) (pe_callB call_len_seq rfl m_len bb_len (pa_cons (pv 0) pa_nil))))
    (pss_cons (ps_set (i := 4) sc__law_spoiled_row.nd rfl (Or.inl rfl) (pe_ix ix_list (pe_lst (pa_cons (pe_op op_sub (pe_ix ix_list (pv 0) (pv 3) (fun _ _ => rfl)) pe_int) (pa_cons (pe_op op_add (pe_ix ix_list (pv 0) (pv 3) (fun _ _ => rfl)) pe_int) (pa_cons (pe_op op_add (pv 3) pe_int) (pa_cons (pe_op op_mod (pv 2) (pe_op op_pow pe_int pe_int)) (pa_cons (pe_op op_sub pe_int (pe_op op_mod (pv 2) (pe_op op_pow pe_int pe_int))) pa_nil)))))) (pe_op op_mod (pv 1) pe_int) (fun _ _ => rfl)))
    (pss_one (ps_ret (pe_op op_cat (pe_op op_cat (pe_slice sl_list (pv 0) po_none (po_some (pv 3))) (pe_lst (pa_cons (pv 4) pa_nil))) (pe_slice sl_list (pv 0) (po_some (pe_op op_add (pv 3) pe_int)) po_none))))), ?_⟩
  have lm : (rs.map V.int).length = rs.length := List.length_map _
  refine ⟨_, rfl, c, 23, rfl, by decide, by decide, fun m m0 m1 => ⟨_, rfl, p, _, rfl, .inl (SqL.of hp), _, _, rfl, rfl, by omega, ?_⟩⟩
  have e0 := Int.emod_nonneg m (show ((rs.map V.int).length : Int) ≠ 0 by omega)
  have e1 := Int.emod_lt_of_pos m (show (0 : Int) < ((rs.map V.int).length : Int) by omega)
  try dsimp only
  generalize m % ((rs.map V.int).length : Int) = z at e0 e1 ⊢
  have at1 := atI_int (ns := rs) (i := z) e0 (by omega)
  generalize rs.getD z.toNat 0 = k at at1
  have pw : (10 : Int) ^ 60 > 0 := by decide
  refine ⟨_, rfl, _, rfl, p, _, _, _, rfl, rfl, SqL.of hp, at1, _, _, rfl, rfl, _, rfl, _, rfl, p, _, _, _, rfl, rfl, SqL.of hp, at1, _, _, rfl, rfl, _, rfl, _, _, rfl, rfl, _, rfl, _, _, rfl, rfl, ⟨by decide, by decide, by decide⟩, _, _, rfl, rfl, (by show (0 : Int) < 10 ^ 60; decide), _, rfl, _, _, rfl, rfl, ⟨by decide, by decide, by decide⟩, _, _, rfl, rfl, (by show (0 : Int) < 10 ^ 60; decide), _, _, rfl, rfl, (by show 5 ≤ sizeLine; decide), fun l hl => ?_⟩
  try dsimp only
  generalize f % 10 ^ Int.toNat 60 = g
  have s1 := Same.new (Same.refl H) hl (.lst [.int (k - 1), .int (k + 1), .int (z + 1), .int g, .int (0 - g)])
  have at5 : ∀ (a1 a2 a3 a4 a5 j : Int), 0 ≤ j → j < 5 → ∃ k, atI [V.int a1, V.int a2, V.int a3, V.int a4, V.int a5] j = some (.int k) := by
    intro a1 a2 a3 a4 a5 j h0 h5
    rcases (by omega : j = 0 ∨ j = 1 ∨ j = 2 ∨ j = 3 ∨ j = 4) with rfl | rfl | rfl | rfl | rfl <;> exact ⟨_, rfl⟩
  obtain ⟨n, hn⟩ := at5 (k - 1) (k + 1) (z + 1) g (0 - g) (c % 5) (Int.emod_nonneg c (by decide)) (Int.emod_lt_of_pos c (by decide))
  refine ⟨_, rfl, _, _, rfl, rfl, pm (by decide), l, _, _, _, rfl, rfl, SqL.of upd_same, hn, ?_⟩
  generalize upd H l (.lst [.int (k - 1), .int (k + 1), .int (z + 1), .int g, .int (0 - g)]) = H1 at s1 ⊢
  refine ⟨_, rfl, _, rfl, _, rfl, p, _, rfl, SqL.of (s1 _ _ hp), fun p1 hp1 => ⟨_, rfl, (by show 1 ≤ sizeLine; decide), fun p2 hp2 => ?_⟩⟩
  rw [cutV_map] at hp2 ⊢
  have c1 := cutI_length rs none (some z)
  generalize cutI rs none (some z) = as at c1 hp2 ⊢
  have s2 := Same.new s1 hp1 (.lst (as.map V.int))
  have h1 : upd H1 p1 (.lst (as.map V.int)) p1 = some (.lst (as.map V.int)) := upd_same
  generalize upd H1 p1 (.lst (as.map V.int)) = H2 at s2 h1 hp2 ⊢
  have s3 := Same.new s2 hp2 (.lst [.int n])
  have h2 := (upd_ne (o := .lst [.int n]) (ne_of_none h1 hp2)).trans h1
  refine ⟨p1, p2, _, _, rfl, rfl, h2, upd_same, by rw [List.length_map]; exact sz (by simp; omega), fun p3 hp3 => ?_⟩
  have s4 := Same.new s3 hp3 (.lst (as.map V.int ++ [.int n]))
  have h4 : upd (upd H2 p2 (.lst [.int n])) p3 (.lst (as.map V.int ++ [.int n])) p3 = some (.lst (as.map V.int ++ [.int n])) := upd_same
  generalize upd (upd H2 p2 (.lst [.int n])) p3 (.lst (as.map V.int ++ [.int n])) = H4 at s4 h4 ⊢
  refine ⟨_, rfl, _, rfl, _, _, rfl, rfl, _, rfl, p, _, rfl, SqL.of (s4 _ _ hp), fun p5 hp5 => ?_⟩
  rw [cutV_map]
  have c2 := cutI_length rs (some (z + 1)) none
  try dsimp only
  generalize cutI rs (some (z + 1)) none = bs at c2 ⊢
  have s5 := Same.new s4 hp5 (.lst (bs.map V.int))
  have h5 := (upd_ne (o := .lst (bs.map V.int)) (ne_of_none h4 hp5)).trans h4
  refine ⟨p3, p5, _, _, rfl, rfl, h5, upd_same, by simp only [List.length_append, List.length_map]; exact sz (by simp; omega), fun r hr => ?_⟩
  refine q r (as ++ [n] ++ bs) _ (Same.new s5 hr _) (by rw [upd_same, List.map_append, List.map_append]; rfl) (by simp; omega)
theorem ok__law_twins_by {er : Errs} (EO : ErrOk K mg er) {ca : ClA} (CA : ClOk K mg ca) {f : Addr} {fd : FuncData} (F : Fun K "_law_twins_by" "_law_twins_by" s__law_twins_by f fd) (m_range : mg "range" = none) (m_len : mg "len" = none) : FnOk P w K mg base CX0 1 f fd ["_law_text"] (sp__law_twins_by K ca) := by
  refine F.ok sc__law_twins_by (fun vs H Q E h => ?_) (fun cdv A outer s H vs Q E hr h => ?_)
  · obtain ⟨x, t, rfl, hx, h40, q⟩ := h
    rfl
  obtain ⟨x, t, rfl, hx, h40, q⟩ := h
  refine ⟨_, pss_cons (ps_set (i := 1) sc__law_twins_by.nd rfl (Or.inl rfl) (pe_lst pa_nil))
    (pss_cons (ps_set (i := 2) sc__law_twins_by.nd rfl (Or.inl rfl) (pe_tup pa_nil))
    (pss_cons (ps_for PassesOwn.never rfl (pi_down rfl m_range (pa_cons (pe_op op_sub (pe_callB call_len_str rfl m_len bb_len (pa_cons (pv 0) pa_nil)) pe_int) (pa_cons (pe_un un_neg pe_int) (pa_cons (pe_un un_neg pe_int) pa_nil)))) (pg_name (i := 3) sc__law_twins_by.nd rfl (Or.inl rfl)) (pss_one (ps_if (pt_cmpR op_eq (pe_ix ix_str (pv 0) (pv 3) (fun _ _ => rfl)) pe_str (nomark _)) (pss_cons (ps_expr (pe_bm PySem.F.plainAttrs_list PySem.F.slot_list_append PySem.F.type_list_append mt_append (pv 1) (pa_cons (pv 2) pa_nil)))
    (pss_one (ps_set (i := 2) sc__law_twins_by.nd rfl (Or.inl rfl) (pe_tup pa_nil)))) (pss_one (ps_set (i := 2) sc__law_twins_by.nd rfl (Or.inl rfl) (pe_tup (pa_cons (pv 2) (pa_cons (pe_bm0 PySem.F.plainAttrs_list PySem.F.slot_list_pop PySem.F.type_list_pop mt_pop (pv 1)) pa_nil))))))))
    (pss_one (ps_ret (pv 2))))), ?_⟩
  have lx : x.length = 2 * t.size := by rw [← cps_len, hx, brk_len]
  have lz : x.length ≤ sizeLine := sz (by omega)
  have lc : (brk t).length = 2 * t.size := brk_len t
  refine ⟨Nat.zero_le _, fun pr hpr => ⟨Nat.zero_le _, fun pt hpt => ?_⟩⟩
  have s1 := Same.new (Same.refl H) hpr (.lst [])
  have s2 := Same.new s1 hpt (.tup [])
  have h1 : upd H pr (.lst []) pr = some (.lst []) := upd_same
  have hr2 := (upd_ne (o := .tup []) (ne_of_none h1 hpt)).trans h1
  have full := runT_brk t []
  refine ⟨_, rfl, x, rfl, lz, _, _, rfl, rfl, _, rfl, _, rfl, _, _, rfl, ⟨by omega, by omega, by decide, by decide⟩, for_down (lo := (x.length : Int) - 1) (n := ((x.length : Int) - 1 - (-1)).toNat) (fun i σ H' => ∃ (o : Option V) (v : V) (h : Bt) (ps : List Bt) (xs : List V), σ = [some (.str x), some (.ref pr), some v, o] ∧ Same H H' ∧ H' pr = some (.lst xs) ∧ Tw H' v h ∧ Tws H' xs ps.reverse ∧ runT ((brk t).drop (2 * t.size - i)) (.leaf, []) = some (h, ps) ∧ xs.length ≤ i ∧ i ≤ 2 * t.size)
    ⟨_, _, .leaf, [], [], rfl, s2, hr2, ⟨pt, rfl, upd_same⟩, .nil, by rw [Nat.sub_zero, List.drop_eq_nil_of_le (by omega)]; rfl, Nat.le_refl _, Nat.zero_le _⟩ ?_ ?_⟩
  · rintro i σ H5 hi ⟨o, v, h, ps, xs, rfl, s5, hr5, tw, tws, run, lxs, hi2⟩
    have ep : ((x.length : Int) - 1 - (i : Int)).toNat = 2 * t.size - (i + 1) := by omega
    have hk : 2 * t.size - (i + 1) < (brk t).length := by omega
    obtain ⟨y, y', r1, st, r2⟩ := runT_at full (List.getElem?_eq_getElem hk)
    rw [show 2 * t.size - (i + 1) + 1 = 2 * t.size - i by omega, run] at r1
    cases r1
    have hat := at_code (x := x) (i := (x.length : Int) - 1 - (i : Int)) (by omega) (by rw [ep, hx]; exact List.getElem?_eq_getElem hk)
    generalize (brk t)[2 * t.size - (i + 1)] = c at hat st
    refine ⟨_, rfl, _, rfl, x, _, c, rfl, rfl, lz, hat, rfl, _, rfl, iteB (dec41 c) ?_⟩
    have fpr : H pr = none := hpr
    by_cases hc : c = 41
    · subst hc
      have st : some (Bt.leaf, h :: ps) = some y' := st
      cases st
      refine iteP rfl ⟨_, rfl, .inl ⟨rfl, _, SqL.of hr5⟩, _, rfl, pr, _, _, rfl, rfl, hr5, sz' (by omega), Nat.zero_le _, fun pe hpe => ?_⟩
      have h6 : upd H5 pr (.lst (xs ++ [v])) pr = some (.lst (xs ++ [v])) := upd_same
      have kp : ∀ p zs, H5 p = some (.tup zs) → upd (upd H5 pr (.lst (xs ++ [v]))) pe (.tup []) p = some (.tup zs) := fun p zs e => by
        have n1 : p ≠ pr := fun z => by rw [z, hr5] at e; cases e
        have e2 := (upd_ne (o := .lst (xs ++ [v])) n1).trans e
        exact (upd_ne (ne_of_none e2 hpe)).trans e2
      refine ⟨_, _, .leaf, h :: ps, xs ++ [v], rfl, Same.new (s5.upd fpr _) hpe _, (upd_ne (ne_of_none h6 hpe)).trans h6, ⟨pe, rfl, upd_same⟩, ?_, r2, by simp; omega, by omega⟩
      rw [List.reverse_cons]
      exact (tws.keep kp).app (.cons (tw.keep kp) .nil)
    · unfold stepT at st
      simp only [if_neg hc] at st
      cases ps with
      | nil => cases st
      | cons p ps =>
        cases st
        rw [List.reverse_cons] at tws
        obtain ⟨ys, y, us, u, rfl, e2, tus, tu⟩ := tws.unsnoc (by intro z; have := tws.len; rw [z] at this; simp at this)
        obtain ⟨rfl, e3⟩ := List.append_inj' e2 rfl
        cases e3
        have hlast : (ys ++ [y])[(ys ++ [y]).length - 1]? = some y := by simp
        refine iteN hc ⟨_, rfl, _, rfl, .inl ⟨rfl, _, SqL.of hr5⟩, pr, _, _, rfl, rfl, hr5, hlast, ?_⟩
        rw [List.dropLast_concat]
        refine ⟨(by show 2 ≤ sizeLine; decide), fun pe hpe => ?_⟩
        have h6 : upd H5 pr (.lst ys) pr = some (.lst ys) := upd_same
        have kp : ∀ p zs, H5 p = some (.tup zs) → upd (upd H5 pr (.lst ys)) pe (.tup [v, y]) p = some (.tup zs) := fun p zs e => by
          have n1 : p ≠ pr := fun z => by rw [z, hr5] at e; cases e
          have e2 := (upd_ne (o := .lst ys) n1).trans e
          exact (upd_ne (ne_of_none e2 hpe)).trans e2
        exact ⟨_, _, .node h p, ps, ys, rfl, Same.new (s5.upd fpr _) hpe _, (upd_ne (ne_of_none h6 hpe)).trans h6, ⟨pe, v, y, rfl, upd_same, tw.keep kp, tu.keep kp⟩, tus.keep kp, r2, by simp at lxs; omega, by omega⟩
  · rintro σ H5 ⟨o, v, h, ps, xs, rfl, s5, hr5, tw, tws, run, lxs, hi2⟩
    rw [show 2 * t.size - ((x.length : Int) - 1 - (-1)).toNat = 0 by omega, List.drop_zero, full] at run
    cases run
    exact ⟨_, rfl, q _ _ s5 tw⟩
theorem ok__law_thing {er : Errs} (EO : ErrOk K mg er) {ca : ClA} (CA : ClOk K mg ca) {f : Addr} {fd : FuncData} (F : Fun K "_law_thing" "_law_thing" s__law_thing f fd) {f0 : Addr} {fd0 : FuncData} (d__law_twins_by : Def P w K mg base "_law_twins_by" ["_law_text"] 1 (sp__law_twins_by K ca) f0 fd0) (m_range : mg "range" = none) (m_len : mg "len" = none) : FnOk P w K mg base CX0 2 f fd ["_law_way", "_law_text"] (sp__law_thing K ca) := by
  refine F.ok sc__law_thing (fun vs H Q E h => ?_) (fun cdv A outer s H vs Q E hr h => ?_)
  · obtain ⟨w, x, t, rfl, hw, hx, h40, q⟩ := h
    rfl
  obtain ⟨w, x, t, rfl, hw, hx, h40, q⟩ := h
  refine ⟨_, pss_cons (ps_if (pt_cmpR op_eq (pv 0) pe_int (nomark _)) (pss_one (ps_ret (pv 1))) pss_nil)
    (pss_cons (ps_if (pt_cmpR op_eq (pv 0) pe_int (nomark _)) (pss_one (ps_ret (pcall d__law_twins_by hr (pa_cons (pv 1) pa_nil)))) pss_nil)
    (pss_one (ps_ret (pe_comp rfl (pi_range1 rfl m_range (pa_cons (pe_callB call_len_str rfl m_len bb_len (pa_cons (pv 1) pa_nil)) pa_nil)) rfl rfl rfl rfl (N := ["_law_k", "_law_text"]) (.own (.cap (j := 1) rfl rfl rfl .nil)) (fun _ _ _ _ _ _ => (pg_name (i := 0) (by show List.Nodup (["_law_k", "_law_text"] : List Str); decide +kernel) rfl (Or.inl rfl))) (fun _ _ _ _ _ _ => (pts_one (pt_cmpR op_eq (pe_ix ix_str (pv 1) (pv 0) (fun _ _ => rfl)) pe_str (nomark _)))) (fun _ _ _ _ _ _ => (pe_bmC (K := K) rfl PySem.F.plainAttrs_str PySem.F.slot_str_count PySem.F.type_str_count mt_count (pe_slice sl_str (pv 1) po_none (po_some (pv 0))) (pa_cons pe_str pa_nil))))))), ?_⟩
  have lx : x.length = 2 * t.size := by rw [← cps_len, hx, brk_len]
  have lz : x.length ≤ sizeLine := sz (by omega)
  have lc : (brk t).length = 2 * t.size := brk_len t
  rcases (by omega : w = 0 ∨ w = 1 ∨ w = 2) with rfl | rfl | rfl
  · exact ⟨_, rfl, rfl, _, rfl, iteP rfl ⟨_, rfl, q _ _ (Same.refl H) ⟨x, rfl, hx⟩⟩⟩
  · refine ⟨_, rfl, rfl, _, rfl, iteN (by decide) ⟨_, rfl, rfl, _, rfl, iteN (by decide) ?_⟩⟩
    refine ⟨_, rfl, x, rfl, lz, _, rfl, by omega, by omega, fun D hD => comp_rangeW (lo := 0) (n := ((x.length : Nat) : Int).toNat) (fun i ys H' => Same H H' ∧ H' D = some (.lst ys) ∧ ys = (rowsB 0 ((brk t).take i)).map V.int ∧ ys.length ≤ i) (sz (by omega)) ⟨Same.new (Same.refl H) hD _, upd_same, rfl, Nat.le_refl _⟩ (fun i ys H' _ h => h.2.2.2) ?_ ?_⟩
    · rintro i ys H5 R R0 hi ⟨s5, hD5, rfl, ly⟩ hR hR0
      have hk : i < (brk t).length := by omega
      have hat := at_code (x := x) (i := (0 : Int) + (i : Int)) (by omega) (by rw [show ((0 : Int) + (i : Int)).toNat = i by omega, hx]; exact List.getElem?_eq_getElem hk)
      have ht : (brk t).take (i + 1) = (brk t).take i ++ [(brk t)[i]] := by rw [List.take_succ_eq_append_getElem hk]
      have sn := rowsB_snoc ((brk t).take i) 0 (brk t)[i] (fun z hz => brk_signs t z (List.mem_of_mem_take hz))
      rw [← ht] at sn
      generalize (brk t)[i] = c at hat sn
      refine ⟨Ext.set rfl, ⟨_, rfl, _, rfl, x, _, c, rfl, rfl, lz, hat, rfl, _, rfl, ?_⟩⟩
      refine iteB (dec40 c) ?_
      by_cases hc : c = 40
      · rw [if_pos hc] at sn
        have ec : Txt.count (Txt.slice x none (some ((0 : Int) + (i : Int)))) (Str.ofString ")") = (0 : Int) + ((((brk t).take i).count 41 : Nat) : Int) := by
          rw [show Str.ofString ")" = ⟨#[41]⟩ by decide +kernel, count_one, slice_to (by omega), hx, show ((0 : Int) + (i : Int)).toNat = i by omega]
          omega
        refine iteP hc ⟨_, rfl, _, rfl, _, rfl, x, rfl, lz, rfl, _, _, rfl, rfl, ?_⟩
        rw [ec]
        exact hR _ _ hD5 ⟨s5.upd hD _, upd_same, by rw [sn, List.map_append]; rfl, by rw [List.length_append]; exact Nat.succ_le_succ ly⟩
      · rw [if_neg hc, List.append_nil] at sn
        exact iteN hc (hR0 _ ⟨s5, hD5, by rw [sn], by omega⟩)
    · rintro ys H5 ⟨s5, hD5, rfl, _⟩
      rw [show ((x.length : Nat) : Int).toNat = (brk t).length by omega, List.take_length, rowsB_full] at hD5
      exact q _ _ s5 ⟨D, rfl, hD5⟩
  · exact ⟨_, rfl, rfl, _, rfl, iteN (by decide) ⟨_, rfl, rfl, _, rfl, iteP rfl ⟨_, rfl, x, t, rfl, hx, h40, fun v H' s tv => q v H' s tv⟩⟩⟩
theorem ok__law_closes {er : Errs} (EO : ErrOk K mg er) {ca : ClA} (CA : ClOk K mg ca) {f : Addr} {fd : FuncData} (F : Fun K "_law_closes" "_law_closes" s__law_closes f fd) : FnOk P w K mg base CX0 1 f fd ["_law_text"] (sp__law_closes K ca) := by
  refine F.ok sc__law_closes (fun vs H Q E h => ?_) (fun cdv A outer s H vs Q E hr h => ?_)
  · obtain ⟨x, rfl, q⟩ := h
    rfl
  obtain ⟨x, rfl, q⟩ := h
  refine ⟨_, pss_cons (ps_set (i := 1) sc__law_closes.nd rfl (Or.inl rfl) pe_int)
    (pss_cons (ps_for PassesOwn.never rfl (pi_str (pv 0)) (pg_name (i := 2) sc__law_closes.nd rfl (Or.inl rfl)) (pss_cons (ps_if (pt_cmpR op_eq (pv 2) pe_str (nomark _)) (pss_one (ps_set (i := 1) sc__law_closes.nd rfl (Or.inl rfl) (pe_op op_add (pv 1) pe_int))) (pss_one (ps_if (pt_cmpR op_eq (pv 2) pe_str (nomark _)) (pss_one (ps_set (i := 1) sc__law_closes.nd rfl (Or.inl rfl) (pe_op op_sub (pv 1) pe_int))) (pss_one (ps_ret pe_bl)))))
    (pss_one (ps_if (pt_cmpR op_lt (pv 1) pe_int (nomark _)) (pss_one (ps_ret pe_bl)) pss_nil))))
    (pss_one (ps_ret (pe_cmpR op_eq (pv 1) pe_int (nomark _))))), ?_⟩
  have fin : ∀ b, clo 0 x.cps.toList = b → Q (.bl b) H := fun b h => by rw [← h]; exact q

  refine ⟨_, rfl, x, rfl, for_str (x := x) (fun i σ H' => H' = H ∧ ∃ (o : Option V) (d : Nat), σ = [some (.str x), some (.int d), o] ∧ clo 0 x.cps.toList = clo d (x.cps.toList.drop i)) ⟨rfl, none, 0, rfl, rfl⟩ ?_ ?_⟩
  · rintro i c σ H' hc ⟨rfl, o, d, rfl, e⟩
    rw [drop_cps hc] at e
    refine ⟨_, rfl, rfl, _, rfl, iteB (dec40 c) ?_⟩
    by_cases h1 : c = 40
    · refine iteP h1 ⟨_, rfl, _, _, rfl, rfl, _, rfl, _, _, rfl, rfl, _, rfl, iteN (by omega) ⟨rfl, _, d + 1, rfl, ?_⟩⟩
      rw [e, h1, clo_up]
    · refine iteN h1 ⟨_, rfl, rfl, _, rfl, iteB (dec41 c) ?_⟩
      by_cases h2 : c = 41
      · refine iteP h2 ⟨_, rfl, _, _, rfl, rfl, _, rfl, _, _, rfl, rfl, _, rfl, ?_⟩
        cases d with
        | zero => exact iteP (by omega) (fin false (by rw [e, h2, clo_under]))
        | succ d =>
          refine iteN (by omega) ⟨rfl, some (.str ⟨#[c]⟩), d, ?_, ?_⟩
          · show [some (V.str x), some (V.int (((d + 1 : Nat) : Int) - 1)), some (V.str ⟨#[c]⟩)] = _
            rw [show ((d + 1 : Nat) : Int) - 1 = (d : Int) by omega]
          · rw [e, h2, clo_down]
      · exact iteN h2 (fin false (by rw [e, clo_other h1 h2]))
  · rintro σ H' ⟨rfl, o, d, rfl, e⟩
    refine ⟨_, rfl, rfl, fin _ ?_⟩
    rw [e, drop_all, clo_nil]
    cases d with
    | zero => rfl
    | succ d => exact (decide_eq_false fun z => by injection z with z; omega).symm
theorem ok__law_is_stairs {er : Errs} (EO : ErrOk K mg er) {ca : ClA} (CA : ClOk K mg ca) {f : Addr} {fd : FuncData} (F : Fun K "_law_is_stairs" "_law_is_stairs" s__law_is_stairs f fd) (m_range : mg "range" = none) (m_len : mg "len" = none) : FnOk P w K mg base CX0 1 f fd ["_law_row"] (sp__law_is_stairs K ca) := by
  refine F.ok sc__law_is_stairs (fun vs H Q E h => ?_) (fun cdv A outer s H vs Q E hr h => ?_)
  · obtain ⟨l, ns, rfl, hl, hz, q⟩ := h
    rfl
  obtain ⟨l, ns, rfl, hl, hz, q⟩ := h
  refine ⟨_, pss_cons (ps_for PassesOwn.never rfl (pi_range1 rfl m_range (pa_cons (pe_callB call_len_seq rfl m_len bb_len (pa_cons (pv 0) pa_nil)) pa_nil)) (pg_name (i := 1) sc__law_is_stairs.nd rfl (Or.inl rfl)) (pss_one (ps_if (PW.pt (pw_or (pt_cmpR op_lt (pe_ix ix_list (pv 0) (pv 1) (fun _ _ => rfl)) pe_int (nomark _)) (pw_or (pt_cmpR op_gt (pe_ix ix_list (pv 0) (pv 1) (fun _ _ => rfl)) (pv 1) (nomark _)) (pw_or1 (PW.pt (pw_and (pt_cmpR op_gt (pv 1) pe_int (nomark _)) (pw_and1 (pt_cmpR op_lt (pe_ix ix_list (pv 0) (pv 1) (fun _ _ => rfl)) (pe_ix ix_list (pv 0) (pe_op op_sub (pv 1) pe_int) (fun _ _ => rfl)) (nomark _))))))))) (pss_one (ps_ret pe_bl)) pss_nil)))
    (pss_one (ps_ret pe_bl)), ?_⟩
  have lm : (ns.map V.int).length = ns.length := List.length_map _
  refine ⟨_, rfl, l, _, rfl, .inl hl, _, rfl, by omega, by omega, for_range (lo := 0) (n := (((ns.map V.int).length : Nat) : Int).toNat) (fun i σ H' => ∃ (o : Option V), σ = [some (.ref l), o] ∧ H = H' ∧ ∃ a : Int, 0 ≤ a ∧ (0 < i → a = ns.getD (i - 1) 0) ∧ (i = 0 → a = 0) ∧ stF 0 0 ns = stF i a (ns.drop i)) ⟨_, rfl, rfl, 0, by decide, fun h => absurd h (by decide), fun _ => rfl, rfl⟩ ?_ ?_⟩
  · rintro i σ H' hi ⟨o, rfl, rfl, a, a0, ap, az, e⟩
    have hi' : i < ns.length := by omega
    have at1 := atI_int (ns := ns) (i := (0 : Int) + (i : Int)) (by omega) (by omega)
    rw [show ((0 : Int) + (i : Int)).toNat = i by omega] at at1
    rw [get_drop hi'] at e
    generalize hc : ns.getD i 0 = c at at1 e
    have fin : (c < a ∨ (i : Int) < c) → Q (.bl false) H := fun h => by
      rw [stF_bad h] at e
      rw [e] at q
      exact q
    refine ⟨_, rfl, _, rfl, l, _, _, _, rfl, rfl, hl, at1, _, _, rfl, rfl, _, rfl, ?_⟩
    by_cases h1 : c < 0
    · exact iteP h1 (iteT (fin (.inl (by omega))))
    refine iteN h1 ⟨_, rfl, _, rfl, l, _, _, _, rfl, rfl, hl, at1, _, rfl, _, _, rfl, rfl, _, rfl, ?_⟩
    by_cases h2 : (0 : Int) + (i : Int) < c
    · exact iteP h2 (iteT (fin (.inr (by omega))))
    refine iteN h2 ⟨_, rfl, _, _, rfl, rfl, _, rfl, ?_⟩
    by_cases h3 : (0 : Int) < (0 : Int) + (i : Int)
    · have at0 := atI_int (ns := ns) (i := (0 : Int) + (i : Int) - 1) (by omega) (by omega)
      rw [show ((0 : Int) + (i : Int) - 1).toNat = i - 1 by omega, ← ap (by omega)] at at0
      refine iteP h3 ⟨_, rfl, _, rfl, l, _, _, _, rfl, rfl, hl, at1, _, rfl, _, rfl, _, _, rfl, rfl, l, _, _, _, rfl, rfl, hl, at0, _, _, rfl, rfl, _, rfl, ?_⟩
      by_cases h4 : c < a
      · exact iteP h4 (fin (.inl h4))
      · refine iteN h4 ⟨_, rfl, rfl, c, by omega, fun _ => ?_, fun h => absurd h (by omega), ?_⟩
        · rw [Nat.add_sub_cancel]; exact hc.symm
        · rw [stF_go (by omega)] at e
          exact e
    · have hi0 : i = 0 := by omega
      have := az hi0
      refine iteN h3 (iteF ⟨_, rfl, rfl, c, by omega, fun _ => ?_, fun h => absurd h (by omega), ?_⟩)
      · rw [Nat.add_sub_cancel]; exact hc.symm
      · rw [stF_go (by omega)] at e
        exact e
  · rintro σ H' ⟨o, rfl, rfl, a, a0, ap, az, e⟩
    rw [show (((ns.map V.int).length : Nat) : Int).toNat = ns.length by omega, List.drop_length, stF_nil] at e
    rw [e] at q
    exact q
theorem ok_closes {er : Errs} (EO : ErrOk K mg er) {ca : ClA} (CA : ClOk K mg ca) {f : Addr} {fd : FuncData} (F : Fun K "closes" "closes" s_closes f fd) : FnOk P w K mg base CX0 1 f fd ["text"] (sp_closes K ca) := by
  refine F.ok sc_closes (fun vs H Q E h => ?_) (fun cdv A outer s H vs Q E hr h => ?_)
  · obtain ⟨x, rfl, q⟩ := h
    rfl
  obtain ⟨x, rfl, q⟩ := h
  refine ⟨_, pss_cons (ps_set (i := 1) sc_closes.nd rfl (Or.inl rfl) pe_int)
    (pss_cons (ps_for PassesOwn.never rfl (pi_str (pv 0)) (pg_name (i := 2) sc_closes.nd rfl (Or.inl rfl)) (pss_one (ps_if (pt_cmpR op_eq (pv 2) pe_str (nomark _)) (pss_one (ps_aug (i := 1) sc_closes.nd rfl (Or.inl rfl) pe_int ip_add)) (pss_one (ps_if (PW.pt (pw_and (pt_cmpR op_eq (pv 2) pe_str (nomark _)) (pw_and1 (pt_cmpR op_gt (pv 1) pe_int (nomark _))))) (pss_one (ps_aug (i := 1) sc_closes.nd rfl (Or.inl rfl) pe_int ip_sub)) (pss_one (ps_ret pe_bl)))))))
    (pss_one (ps_ret (pe_cmpR op_eq (pv 1) pe_int (nomark _))))), ?_⟩
  have fin : ∀ b, clo 0 x.cps.toList = b → Q (.bl b) H := fun b h => by rw [← h]; exact q

  refine ⟨_, rfl, x, rfl, for_str (x := x) (fun i σ H' => H' = H ∧ ∃ (o : Option V) (d : Nat), σ = [some (.str x), some (.int d), o] ∧ clo 0 x.cps.toList = clo d (x.cps.toList.drop i)) ⟨rfl, none, 0, rfl, rfl⟩ ?_ ?_⟩
  · rintro i c σ H' hc ⟨rfl, o, d, rfl, e⟩
    rw [drop_cps hc] at e
    refine ⟨_, rfl, rfl, _, rfl, iteB (dec40 c) ?_⟩
    by_cases h1 : c = 40
    · refine iteP h1 ⟨_, rfl, _, _, rfl, rfl, rfl, _, d + 1, rfl, ?_⟩
      rw [e, h1, clo_up]
    · refine iteN h1 ⟨_, rfl, rfl, _, rfl, iteB (dec41 c) ?_⟩
      by_cases h2 : c = 41
      · refine iteP h2 ⟨_, rfl, _, _, rfl, rfl, _, rfl, ?_⟩
        cases d with
        | zero => exact iteF (fin false (by rw [e, h2, clo_under]))
        | succ d =>
          refine iteP (by omega) ⟨_, rfl, _, _, rfl, rfl, rfl, some (.str ⟨#[c]⟩), d, ?_, ?_⟩
          · show [some (V.str x), some (V.int (((d + 1 : Nat) : Int) - 1)), some (V.str ⟨#[c]⟩)] = _
            rw [show ((d + 1 : Nat) : Int) - 1 = (d : Int) by omega]
          · rw [e, h2, clo_down]
      · exact iteN h2 (iteF (fin false (by rw [e, clo_other h1 h2])))
  · rintro σ H' ⟨rfl, o, d, rfl, e⟩
    refine ⟨_, rfl, rfl, fin _ ?_⟩
    rw [e, drop_all, clo_nil]
    cases d with
    | zero => rfl
    | succ d => exact (decide_eq_false fun z => by injection z with z; omega).symm
theorem ok_Brackets__is_one {er : Errs} (EO : ErrOk K mg er) {ca : ClA} (CA : ClOk K mg ca) {fd : FuncData} (F : Fun K "is_one" "Brackets.is_one" s_Brackets__is_one ca.f_Brackets__is_one fd) {f0 : Addr} {fd0 : FuncData} (d_closes : Def P w K mg base "closes" ["text"] 1 (sp_closes K ca) f0 fd0) : FnOk P w K mg base CX0 2 ca.f_Brackets__is_one fd ["self", "thing"] (sp_Brackets__is_one K ca) := by
  refine F.ok sc_Brackets__is_one (fun vs H Q E h => ?_) (fun cdv A outer s H vs Q E hr h => ?_)
  · obtain ⟨x, v, b, rfl, th, q⟩ := h
    rfl
  obtain ⟨x, v, b, rfl, th, q⟩ := h
  refine ⟨_, pss_one (ps_ret (pcall d_closes hr (pa_cons (pv 1) pa_nil))), ?_⟩
  obtain ⟨t, rfl, rfl⟩ := th
  have q : Q (.bl (clo 0 t.cps.toList)) H := q _ (Same.refl H)
  exact ⟨_, rfl, t, rfl, q⟩
theorem ok_Brackets__Family_refuse_other {er : Errs} (EO : ErrOk K mg er) {ca : ClA} (CA : ClOk K mg ca) {fd : FuncData} (F : Fun K "refuse_other" "Family.refuse_other" s_Brackets__Family_refuse_other ca.f_Brackets__Family_refuse_other fd) {fd0 : FuncData} (d_Brackets__is_one : MDef P w K mg base ["self", "thing"] 2 (sp_Brackets__is_one K ca) ca.f_Brackets__is_one fd0) : FnOk P w K mg base (CX1 P w) 3 ca.f_Brackets__Family_refuse_other fd ["self", "thing"] (sp_Brackets__Family_refuse_other K ca er) := by
  refine F.okE sc_Brackets__Family_refuse_other (fun vs H Q E h => ?_) (fun cdv A outer s H vs Q E hr h => ?_)
  · obtain ⟨x, dx, fs, wd, v, rfl, hx, fl, q⟩ := h
    rfl
  obtain ⟨x, dx, fs, wd, v, rfl, hx, fl, q⟩ := h
  refine ⟨_, pss_one (ps_if (pt_not (pt_val (pmeth (pv 0) CA.c_Brackets CA.mt_Brackets_is_one d_Brackets__is_one hr (pa_cons (pv 1) pa_nil)))) (pss_one (ps_raise thr_def EO.x_thing rfl EO.m_thing (pa_cons pe_str pa_nil))) pss_nil), ?_⟩
  rcases q with ⟨t, th, q⟩ | ⟨bad, q⟩
  · exact ⟨_, rfl, x, dx, fs, rfl, hx, fl.no "is_one" (by decide) (by decide), _, rfl, x, v, true, rfl, (by obtain ⟨y, rfl, ey⟩ := th; exact ⟨y, rfl, by rw [ey, brk_clo]⟩), fun H1 s1 => ⟨_, rfl, iteF (q H1 s1)⟩⟩
  · exact ⟨_, rfl, x, dx, fs, rfl, hx, fl.no "is_one" (by decide) (by decide), _, rfl, x, v, false, rfl, (by obtain ⟨y, rfl, ey⟩ := bad; exact ⟨y, rfl, ey.symm⟩), fun H1 s1 => ⟨_, rfl, iteT ⟨sz (n := 1) (by decide), q H1 s1⟩⟩⟩
theorem ok_Stairs__is_one {er : Errs} (EO : ErrOk K mg er) {ca : ClA} (CA : ClOk K mg ca) {fd : FuncData} (F : Fun K "is_one" "Stairs.is_one" s_Stairs__is_one ca.f_Stairs__is_one fd) (m_enumerate : mg "enumerate" = none) : FnOk P w K mg base CX0 1 ca.f_Stairs__is_one fd ["self", "thing"] (sp_Stairs__is_one K ca) := by
  refine F.ok sc_Stairs__is_one (fun vs H Q E h => ?_) (fun cdv A outer s H vs Q E hr h => ?_)
  · obtain ⟨x, v, b, rfl, th, q⟩ := h
    rfl
  obtain ⟨x, v, b, rfl, th, q⟩ := h
  refine ⟨_, pss_cons (ps_set (i := 2) sc_Stairs__is_one.nd rfl (Or.inl rfl) pe_int)
    (pss_cons (ps_for PassesOwn.never rfl (pi_enum rfl m_enumerate (pa_cons (pv 1) pa_nil)) (pg_tup rfl (pgs_cons (pg_name (i := 3) sc_Stairs__is_one.nd rfl (Or.inl rfl)) (pgs_cons (pg_name (i := 4) sc_Stairs__is_one.nd rfl (Or.inl rfl)) pgs_nil))) (pss_cons (ps_if (PW.pt (pw_or (pt_cmpR op_lt (pv 4) (pv 2) (nomark _)) (pw_or1 (pt_cmpR op_gt (pv 4) (pv 3) (nomark _))))) (pss_one (ps_ret pe_bl)) pss_nil)
    (pss_one (ps_set (i := 2) sc_Stairs__is_one.nd rfl (Or.inl rfl) (pv 4)))))
    (pss_one (ps_ret pe_bl))), ?_⟩
  obtain ⟨l, ns, rfl, hl, rfl⟩ := th
  have hl := SqL.of (K := K) hl
  have lm : (ns.map V.int).length = ns.length := List.length_map _
  refine ⟨_, rfl, l, rfl, ⟨_, hl⟩, for_enum (xs := ns.map V.int) (fun i σ H' => ∃ (o1 o2 : Option V) (a : Int), σ = [some (.ref x), some (.ref l), some (.int a), o1, o2] ∧ Same H H' ∧ stF 0 0 ns = stF i a (ns.drop i)) ⟨_, _, 0, rfl, Same.refl H, rfl⟩ (fun i σ H' _ h => h.choose_spec.choose_spec.choose_spec.2.1.seq hl) ?_ ?_⟩
  · rintro i v σ H' T hv ⟨o1, o2, a, rfl, sm, e⟩ hT
    obtain ⟨c, rfl⟩ := get_int hv
    have hc : ns[i]? = some c := by
      rw [List.getElem?_map] at hv
      cases h : ns[i]? with
      | none => rw [h] at hv; cases hv
      | some d => rw [h] at hv; injection hv with hv; injection hv with hv; rw [hv]
    have hi : i < ns.length := (List.getElem?_eq_some_iff.mp hc).1
    have ed : ns.drop i = c :: ns.drop (i + 1) := by
      rw [get_drop hi, List.getD_eq_getElem?_getD, hc]; rfl
    rw [ed] at e
    have sm' := Same.new sm hT (.tup [.int (i : Int), .int c])
    refine ⟨T, _, rfl, SqT.of upd_same, rfl, _, _, rfl, _, _, rfl, rfl, ?_⟩
    refine ⟨_, rfl, _, rfl, _, _, rfl, rfl, _, rfl, ?_⟩
    by_cases h1 : c < a
    · refine iteP h1 (iteT ?_)
      rw [stF_bad (.inl h1)] at e
      rw [e] at q
      exact q _ sm'
    refine iteN h1 ⟨_, rfl, _, rfl, _, _, rfl, rfl, _, rfl, ?_⟩
    by_cases h2 : (i : Int) < c
    · refine iteP h2 ?_
      rw [stF_bad (.inr h2)] at e
      rw [e] at q
      exact q _ sm'
    · refine iteN h2 ⟨_, rfl, ?_⟩
      rw [stF_go (by omega)] at e
      exact ⟨_, _, c, rfl, sm', e⟩
  · rintro σ H' ⟨o1, o2, a, rfl, sm, e⟩
    rw [lm, List.drop_length, stF_nil] at e
    rw [e] at q
    exact q _ sm
theorem ok_Stairs__Family_refuse_other {er : Errs} (EO : ErrOk K mg er) {ca : ClA} (CA : ClOk K mg ca) {fd : FuncData} (F : Fun K "refuse_other" "Family.refuse_other" s_Stairs__Family_refuse_other ca.f_Stairs__Family_refuse_other fd) {fd0 : FuncData} (d_Stairs__is_one : MDef P w K mg base ["self", "thing"] 1 (sp_Stairs__is_one K ca) ca.f_Stairs__is_one fd0) : FnOk P w K mg base (CX1 P w) 2 ca.f_Stairs__Family_refuse_other fd ["self", "thing"] (sp_Stairs__Family_refuse_other K ca er) := by
  refine F.okE sc_Stairs__Family_refuse_other (fun vs H Q E h => ?_) (fun cdv A outer s H vs Q E hr h => ?_)
  · obtain ⟨x, dx, fs, wd, v, rfl, hx, fl, q⟩ := h
    rfl
  obtain ⟨x, dx, fs, wd, v, rfl, hx, fl, q⟩ := h
  refine ⟨_, pss_one (ps_if (pt_not (pt_val (pmeth (pv 0) CA.c_Stairs CA.mt_Stairs_is_one d_Stairs__is_one hr (pa_cons (pv 1) pa_nil)))) (pss_one (ps_raise thr_def EO.x_thing rfl EO.m_thing (pa_cons pe_str pa_nil))) pss_nil), ?_⟩
  rcases q with ⟨t, th, q⟩ | ⟨bad, q⟩
  · exact ⟨_, rfl, x, dx, fs, rfl, hx, fl.no "is_one" (by decide) (by decide), _, rfl, x, v, true, rfl, (by obtain ⟨p, rfl, hp⟩ := th; obtain ⟨a0, st⟩ := stT_St t; exact ⟨p, stT t, rfl, hp, st.ok.symm⟩), fun H1 s1 => ⟨_, rfl, iteF (q H1 s1)⟩⟩
  · exact ⟨_, rfl, x, dx, fs, rfl, hx, fl.no "is_one" (by decide) (by decide), _, rfl, x, v, false, rfl, (by obtain ⟨p, rs, rfl, hp, e⟩ := bad; exact ⟨p, rs, rfl, hp, e.symm⟩), fun H1 s1 => ⟨_, rfl, iteT ⟨sz (n := 1) (by decide), q H1 s1⟩⟩⟩
theorem ok_Twins__is_one {er : Errs} (EO : ErrOk K mg er) {ca : ClA} (CA : ClOk K mg ca) {fd : FuncData} (F : Fun K "is_one" "Twins.is_one" s_Twins__is_one ca.f_Twins__is_one fd) : FnOk P w K mg base CX0 1 ca.f_Twins__is_one fd ["self", "thing"] (sp_Twins__is_one K ca) := by
  refine F.ok sc_Twins__is_one (fun vs H Q E h => ?_) (fun cdv A outer s H vs Q E hr h => ?_)
  · obtain ⟨x, v, b, rfl, rfl, q⟩ := h
    rfl
  obtain ⟨x, v, b, rfl, rfl, q⟩ := h
  refine ⟨_, pss_one (ps_ret pe_bl), ?_⟩
  exact q _ (Same.refl H)
theorem ok_Twins__Family_refuse_other {er : Errs} (EO : ErrOk K mg er) {ca : ClA} (CA : ClOk K mg ca) {fd : FuncData} (F : Fun K "refuse_other" "Family.refuse_other" s_Twins__Family_refuse_other ca.f_Twins__Family_refuse_other fd) {fd0 : FuncData} (d_Twins__is_one : MDef P w K mg base ["self", "thing"] 1 (sp_Twins__is_one K ca) ca.f_Twins__is_one fd0) : FnOk P w K mg base (CX1 P w) 2 ca.f_Twins__Family_refuse_other fd ["self", "thing"] (sp_Twins__Family_refuse_other K ca er) := by
  refine F.okE sc_Twins__Family_refuse_other (fun vs H Q E h => ?_) (fun cdv A outer s H vs Q E hr h => ?_)
  · obtain ⟨x, dx, fs, wd, v, rfl, hx, fl, q⟩ := h
    rfl
  obtain ⟨x, dx, fs, wd, v, rfl, hx, fl, q⟩ := h
  refine ⟨_, pss_one (ps_if (pt_not (pt_val (pmeth (pv 0) CA.c_Twins CA.mt_Twins_is_one d_Twins__is_one hr (pa_cons (pv 1) pa_nil)))) (pss_one (ps_raise thr_def EO.x_thing rfl EO.m_thing (pa_cons pe_str pa_nil))) pss_nil), ?_⟩
  rcases q with ⟨t, th, q⟩ | ⟨bad, q⟩
  · exact ⟨_, rfl, x, dx, fs, rfl, hx, fl.no "is_one" (by decide) (by decide), _, rfl, x, v, true, rfl, rfl, fun H1 s1 => ⟨_, rfl, iteF (q H1 s1)⟩⟩
  · exact bad.elim
theorem ok_Brackets__size_of {er : Errs} (EO : ErrOk K mg er) {ca : ClA} (CA : ClOk K mg ca) {fd : FuncData} (F : Fun K "size_of" "Brackets.size_of" s_Brackets__size_of ca.f_Brackets__size_of fd) : FnOk P w K mg base CX0 1 ca.f_Brackets__size_of fd ["self", "thing"] (sp_Brackets__size_of K ca) := by
  refine F.ok sc_Brackets__size_of (fun vs H Q E h => ?_) (fun cdv A outer s H vs Q E hr h => ?_)
  · obtain ⟨x, v, b, rfl, th, h40, q⟩ := h
    rfl
  obtain ⟨x, v, b, rfl, th, h40, q⟩ := h
  refine ⟨_, pss_one (ps_ret (pe_bm PySem.F.plainAttrs_str PySem.F.slot_str_count PySem.F.type_str_count mt_count (pv 1) (pa_cons pe_str pa_nil))), ?_⟩
  obtain ⟨t, rfl, ht⟩ := th
  have q : Q (.int ((t.cps.toList.count 40 : Nat) : Int)) H := by rw [ht, brk_count]; exact q _ (Same.refl H)
  refine ⟨_, rfl, rfl, t, _, rfl, rfl, ?_⟩
  rw [p40, count_one]
  exact q
theorem ok_Stairs__size_of {er : Errs} (EO : ErrOk K mg er) {ca : ClA} (CA : ClOk K mg ca) {fd : FuncData} (F : Fun K "size_of" "Stairs.size_of" s_Stairs__size_of ca.f_Stairs__size_of fd) (m_len : mg "len" = none) : FnOk P w K mg base CX0 1 ca.f_Stairs__size_of fd ["self", "thing"] (sp_Stairs__size_of K ca) := by
  refine F.ok sc_Stairs__size_of (fun vs H Q E h => ?_) (fun cdv A outer s H vs Q E hr h => ?_)
  · obtain ⟨x, v, b, rfl, th, h40, q⟩ := h
    rfl
  obtain ⟨x, v, b, rfl, th, h40, q⟩ := h
  refine ⟨_, pss_one (ps_ret (pe_callB call_len_seq rfl m_len bb_len (pa_cons (pv 1) pa_nil))), ?_⟩
  obtain ⟨p, rfl, hp⟩ := th
  refine ⟨_, rfl, p, _, rfl, .inl (SqL.of hp), ?_⟩
  rw [List.length_map, stT_len]
  exact q _ (Same.refl H)
theorem ok_Twins__size_of {er : Errs} (EO : ErrOk K mg er) {ca : ClA} (CA : ClOk K mg ca) {fd : FuncData} (F : Fun K "size_of" "Twins.size_of" s_Twins__size_of ca.f_Twins__size_of fd) : FnOk P w K mg base CX0 1 ca.f_Twins__size_of fd ["self", "thing"] (sp_Twins__size_of K ca) := by
  refine F.ok sc_Twins__size_of (fun vs H Q E h => ?_) (fun cdv A outer s H vs Q E hr h => ?_)
  · obtain ⟨x, v, t, rfl, th, h40, q⟩ := h
    rfl
  obtain ⟨x, v, t, rfl, th, h40, q⟩ := h
  refine ⟨_, pss_cons (ps_set (i := 2) sc_Twins__size_of.nd rfl (Or.inl rfl) pe_int)
    (pss_cons (ps_set (i := 3) sc_Twins__size_of.nd rfl (Or.inl rfl) (pe_lst (pa_cons (pv 1) pa_nil)))
    (pss_cons (ps_while PassesOwn.never (pt_cmpR (op_neD (hu100 hr)) (pv 3) (pe_lst pa_nil) (nomark _)) (pss_cons (ps_set (i := 4) sc_Twins__size_of.nd rfl (Or.inl rfl) (pe_bm0 PySem.F.plainAttrs_list PySem.F.slot_list_pop PySem.F.type_list_pop mt_pop (pv 3)))
    (pss_one (ps_if (pt_cmpR (op_neD (hu100 hr)) (pv 4) (pe_tup pa_nil) (nomark _)) (pss_cons (ps_aug (i := 2) sc_Twins__size_of.nd rfl (Or.inl rfl) pe_int ip_add)
    (pss_one (ps_expr (pe_bm PySem.F.plainAttrs_list PySem.F.slot_list_extend PySem.F.type_list_extend mt_extT (pv 3) (pa_cons (pv 4) pa_nil))))) pss_nil))))
    (pss_one (ps_ret (pv 2))))), ?_⟩
  have th : Tw H v t := th
  refine ⟨_, rfl, (by show 1 ≤ sizeLine; decide), fun pr hpr => ?_⟩
  have s1 := Same.new (Same.refl H) hpr (.lst [v])
  refine ⟨fun mm σ H5 => ∃ (o : Option V) (k : Nat) (ts : List Bt) (xs : List V), σ = [some (.ref x), some v, some (.int (k : Int)), some (.ref pr), o] ∧ Same H H5 ∧ H5 pr = some (.lst xs) ∧ Tws H xs ts ∧ k + sizes ts = t.size ∧ xs.length ≤ 1 + k ∧ mm = 2 * sizes ts + xs.length, ⟨_, _, 0, [t], [v], rfl, s1, upd_same, .cons th .nil, by unfold sizes; simp, by simp, rfl⟩, ?_⟩
  rintro mm σ H5 ⟨o, k, ts, xs, rfl, s5, hr5, tws, hk, hl, rfl⟩
  refine ⟨_, rfl, Nat.zero_le _, fun pe hpe => ?_⟩
  have nre : pr ≠ pe := ne_of_none hr5 hpe
  have s6 := Same.new s5 hpe (.lst [])
  have hr6 := (upd_ne (o := .lst []) nre).trans hr5
  refine ⟨1, _, by decide, EqD.void nre (SqL.of hr6) (SqL.of upd_same), ⟨pr, pe, rfl, rfl, nre⟩, _, rfl, ?_⟩
  generalize upd H5 pe (.lst []) = H6 at s6 hr6 ⊢
  by_cases hx : xs = []
  · refine ngF (decide_eq_true hx) ?_
    subst hx
    cases tws
    have e : (k : Int) = (t.size : Int) := by unfold sizes at hk; simp at hk; omega
    exact ⟨_, rfl, by rw [e]; exact q _ s6⟩
  obtain ⟨ys, y, us, u, rfl, rfl, tus, tu⟩ := tws.unsnoc hx
  rw [sizes_app] at hk
  have su : sizes [u] = u.size := by unfold sizes; simp
  rw [su] at hk
  have ly : (ys ++ [y]).length = ys.length + 1 := by simp
  refine ngT (decide_eq_false hx) ⟨fun σ' H' => ∃ (o : Option V) (k' : Nat) (ts' : List Bt) (xs' : List V), σ' = [some (.ref x), some v, some (.int (k' : Int)), some (.ref pr), o] ∧ Same H H' ∧ H' pr = some (.lst xs') ∧ Tws H xs' ts' ∧ k' + sizes ts' = t.size ∧ xs'.length ≤ 1 + k' ∧ 2 * sizes ts' + xs'.length < 2 * (sizes us + u.size) + (ys.length + 1), ?_, ?_⟩
  · rintro σ' H' ⟨o, k', ts', xs', rfl, a1, a2, a3, a4, a5, a6⟩
    exact ⟨_, by rw [sizes_app, su, ly]; exact a6, o, k', ts', xs', rfl, a1, a2, a3, a4, a5, rfl⟩
  have hlast : (ys ++ [y])[(ys ++ [y]).length - 1]? = some y := by rw [ly, Nat.add_sub_cancel]; simp
  refine ⟨_, rfl, .inl ⟨rfl, _, SqL.of hr6⟩, pr, _, _, rfl, rfl, hr6, hlast, ?_⟩
  rw [List.dropLast_concat]
  have fpr : H pr = none := hpr
  have s7 := s6.upd fpr (.lst ys)
  have hr7 : upd H6 pr (.lst ys) pr = some (.lst ys) := upd_same
  generalize upd H6 pr (.lst ys) = H7 at s7 hr7 ⊢
  obtain ⟨p, zs, rfl, hp, hz⟩ := tu.ref
  refine ⟨_, rfl, Nat.zero_le _, fun pt hpt => ?_⟩
  have hp7 := s7 _ _ hp
  have npt : p ≠ pt := ne_of_none hp7 hpt
  have s8 := Same.new s7 hpt (.tup [])
  have hp8 := s8 _ _ hp
  have hr8 := (upd_ne (o := .tup []) (ne_of_none hr7 hpt)).trans hr7
  refine ⟨1, _, by decide, EqD.unit npt (SqT.of hp8) (SqT.of upd_same), ⟨p, pt, rfl, rfl, npt⟩, _, rfl, ?_⟩
  generalize upd H7 pt (.tup []) = H8 at s8 hp8 hr8 ⊢
  cases u with
  | leaf =>
    have ez := hz.mpr rfl
    refine ngF (decide_eq_true ez) ⟨_, k, us, ys, rfl, s8, hr8, tus, ?_, by omega, ?_⟩
    · have : (Bt.leaf).size = 0 := rfl
      omega
    · have : (Bt.leaf).size = 0 := rfl
      omega
  | node l r =>
    have ez : zs ≠ [] := fun z => by cases hz.mp z
    obtain ⟨p', a, b, e1, hp', tl, tr⟩ := tu
    cases e1
    rw [hp] at hp'
    cases hp'
    have sn : (Bt.node l r).size = l.size + r.size + 1 := rfl
    have slr : sizes [l, r] = l.size + r.size := by unfold sizes; simp
    refine ngT (decide_eq_false ez) ⟨_, rfl, _, _, rfl, rfl, _, rfl, .inl ⟨rfl, _, SqL.of hr8⟩, _, rfl, pr, p, _, _, rfl, rfl, hr8, SqT.of hp8, sz (by simp; omega), ?_⟩
    refine ⟨_, k + 1, us ++ [l, r], ys ++ [a, b], rfl, s8.upd fpr _, upd_same, tus.app (.cons tl (.cons tr .nil)), by rw [sizes_app, slr]; omega, by simp; omega, ?_⟩
    rw [sizes_app, slr, List.length_append, sn]
    simp
    omega
theorem ok_Brackets__bare {er : Errs} (EO : ErrOk K mg er) {ca : ClA} (CA : ClOk K mg ca) {fd : FuncData} (F : Fun K "bare" "Brackets.bare" s_Brackets__bare ca.f_Brackets__bare fd) : FnOk P w K mg base CX0 1 ca.f_Brackets__bare fd ["self"] (sp_Brackets__bare K ca) := by
  refine F.ok sc_Brackets__bare (fun vs H Q E h => ?_) (fun cdv A outer s H vs Q E hr h => ?_)
  · obtain ⟨x, rfl, q⟩ := h
    rfl
  obtain ⟨x, rfl, q⟩ := h
  refine ⟨_, pss_one (ps_ret pe_str), ?_⟩
  exact q _ _ (Same.refl H) (fun p e => by cases e) ⟨Str.ofString "", rfl, by decide +kernel⟩
theorem ok_Stairs__bare {er : Errs} (EO : ErrOk K mg er) {ca : ClA} (CA : ClOk K mg ca) {fd : FuncData} (F : Fun K "bare" "Stairs.bare" s_Stairs__bare ca.f_Stairs__bare fd) : FnOk P w K mg base CX0 1 ca.f_Stairs__bare fd ["self"] (sp_Stairs__bare K ca) := by
  refine F.ok sc_Stairs__bare (fun vs H Q E h => ?_) (fun cdv A outer s H vs Q E hr h => ?_)
  · obtain ⟨x, rfl, q⟩ := h
    rfl
  obtain ⟨x, rfl, q⟩ := h
  refine ⟨_, pss_one (ps_ret (pe_lst pa_nil)), ?_⟩
  exact ⟨Nat.zero_le _, fun p hp => q _ _ (Same.new (Same.refl H) hp _) (fun _ e => by cases e; exact hp) ⟨p, rfl, upd_same⟩⟩
theorem ok_Twins__bare {er : Errs} (EO : ErrOk K mg er) {ca : ClA} (CA : ClOk K mg ca) {fd : FuncData} (F : Fun K "bare" "Twins.bare" s_Twins__bare ca.f_Twins__bare fd) : FnOk P w K mg base CX0 1 ca.f_Twins__bare fd ["self"] (sp_Twins__bare K ca) := by
  refine F.ok sc_Twins__bare (fun vs H Q E h => ?_) (fun cdv A outer s H vs Q E hr h => ?_)
  · obtain ⟨x, rfl, q⟩ := h
    rfl
  obtain ⟨x, rfl, q⟩ := h
  refine ⟨_, pss_one (ps_ret (pe_tup pa_nil)), ?_⟩
  exact ⟨Nat.zero_le _, fun p hp => q _ _ (Same.new (Same.refl H) hp _) (fun _ e => by cases e; exact hp) ⟨p, rfl, upd_same⟩⟩
theorem ok_first_close {er : Errs} (EO : ErrOk K mg er) {ca : ClA} (CA : ClOk K mg ca) {f : Addr} {fd : FuncData} (F : Fun K "first_close" "first_close" s_first_close f fd) : FnOk P w K mg base CX0 1 f fd ["text"] (sp_first_close K ca) := by
  refine F.ok sc_first_close (fun vs H Q E h => ?_) (fun cdv A outer s H vs Q E hr h => ?_)
  · obtain ⟨t, a, b, rfl, ht, ha, hz, q⟩ := h
    rfl
  obtain ⟨t, a, b, rfl, ht, ha, hz, q⟩ := h
  refine ⟨_, pss_cons (ps_set (i := 1) sc_first_close.nd rfl (Or.inl rfl) pe_int)
    (pss_cons (ps_set (i := 2) sc_first_close.nd rfl (Or.inl rfl) pe_int)
    (pss_cons (ps_while PassesOwn.never (pt_cmpR op_gt (pv 1) pe_int (nomark _)) (pss_cons (ps_aug (i := 2) sc_first_close.nd rfl (Or.inl rfl) pe_int ip_add)
    (pss_one (ps_if (pt_cmpR op_eq (pe_ix ix_str (pv 0) (pv 2) (fun _ _ => rfl)) pe_str (nomark _)) (pss_one (ps_aug (i := 1) sc_first_close.nd rfl (Or.inl rfl) pe_int ip_add)) (pss_one (ps_aug (i := 1) sc_first_close.nd rfl (Or.inl rfl) pe_int ip_sub))))))
    (pss_one (ps_ret (pv 2))))), ?_⟩
  have lz : t.length ≤ sizeLine := sz (by omega)
  refine ⟨fun m σ H' => ∃ p d : Nat, σ = [some (.str t), some (.int d), some (.int p)] ∧ H = H' ∧ ((p ≤ a.length ∧ m = a.length + 1 - p ∧ ∃ e, d = e + 1 ∧ clo e (a.drop p) = true) ∨ (p = a.length + 1 ∧ d = 0)), ⟨a.length + 1, 0, 1, rfl, rfl, .inl ⟨Nat.zero_le _, rfl, 0, rfl, ha⟩⟩, ?_⟩
  rintro m σ H' ⟨p, d, rfl, rfl, h⟩
  refine ⟨_, rfl, _, _, rfl, rfl, _, rfl, ?_⟩
  rcases h with ⟨hp, hm, e, rfl, he⟩ | ⟨hp, hd⟩
  · refine iteP (by omega) ⟨fun σ' H' => H = H' ∧ ∃ d' : Nat, σ' = [some (.str t), some (.int d'), some (.int ((p + 1 : Nat) : Int))] ∧ ((p + 1 ≤ a.length ∧ ∃ e, d' = e + 1 ∧ clo e (a.drop (p + 1)) = true) ∨ (p = a.length ∧ d' = 0)), ?_, ?_⟩
    · rintro σ' H' ⟨rfl, d', rfl, h⟩
      rcases h with ⟨h1, h2⟩ | ⟨h1, h2⟩
      · exact ⟨a.length + 1 - (p + 1), by omega, p + 1, d', rfl, rfl, .inl ⟨h1, rfl, h2⟩⟩
      · exact ⟨0, by omega, p + 1, d', rfl, rfl, .inr ⟨by omega, h2⟩⟩
    · refine ⟨_, rfl, _, _, rfl, rfl, ?_⟩
      try dsimp only
      by_cases hlt : p < a.length
      · have hc : t.cps.toList[((p : Int) + 1).toNat]? = some a[p] := by
          rw [show ((p : Int) + 1).toNat = p + 1 by omega, ht, List.getElem?_cons_succ, List.getElem?_append_left hlt, List.getElem?_eq_getElem hlt]
        have hat := at_code (by omega) hc
        refine ⟨_, rfl, _, rfl, t, _, _, rfl, rfl, lz, hat, rfl, _, rfl, iteB (dec40 _) ?_⟩
        rcases clo_step hlt he with ⟨h1, h2⟩ | ⟨h1, e', rfl, h2⟩
        · refine iteP h1 ⟨_, rfl, _, _, rfl, rfl, rfl, e + 1 + 1, rfl, .inl ⟨hlt, e + 1, rfl, h2⟩⟩
        · refine iteN (by rw [h1]; decide) ⟨_, rfl, _, _, rfl, rfl, rfl, e' + 1, ?_, .inl ⟨hlt, e', rfl, h2⟩⟩
          show [some (V.str t), some (V.int (((e' + 1 + 1 : Nat) : Int) - 1)), some (V.int ((p : Int) + 1))] = _
          rw [show ((e' + 1 + 1 : Nat) : Int) - 1 = ((e' + 1 : Nat) : Int) by omega]
          rfl
      · have ep : p = a.length := by omega
        subst ep
        have hc : t.cps.toList[((a.length : Int) + 1).toNat]? = some 41 := by
          rw [show ((a.length : Int) + 1).toNat = a.length + 1 by omega, ht, List.getElem?_cons_succ, List.getElem?_append_right (Nat.le_refl _), Nat.sub_self]
          rfl
        have hat := at_code (by omega) hc
        have e0 := clo_end (Nat.le_refl _) he
        subst e0
        refine ⟨_, rfl, _, rfl, t, _, _, rfl, rfl, lz, hat, rfl, _, rfl, iteB (dec40 _) (iteN (by decide) ⟨_, rfl, _, _, rfl, rfl, rfl, 0, rfl, .inr ⟨rfl, rfl⟩⟩)⟩
  · subst hd hp
    refine iteN (by decide) ⟨_, rfl, ?_⟩
    rw [show ((a.length + 1 : Nat) : Int) = (a.length : Int) + 1 by omega]
    exact q
theorem ok_Brackets__parted {er : Errs} (EO : ErrOk K mg er) {ca : ClA} (CA : ClOk K mg ca) {fd : FuncData} (F : Fun K "parted" "Brackets.parted" s_Brackets__parted ca.f_Brackets__parted fd) {f0 : Addr} {fd0 : FuncData} (d_first_close : Def P w K mg base "first_close" ["text"] 1 (sp_first_close K ca) f0 fd0) : FnOk P w K mg base CX0 2 ca.f_Brackets__parted fd ["self", "thing"] (sp_Brackets__parted K ca) := by
  refine F.ok sc_Brackets__parted (fun vs H Q E h => ?_) (fun cdv A outer s H vs Q E hr h => ?_)
  · obtain ⟨x, v, bl, br, rfl, th, h39, q⟩ := h
    rfl
  obtain ⟨x, v, bl, br, rfl, th, h39, q⟩ := h
  refine ⟨_, pss_cons (ps_set (i := 2) sc_Brackets__parted.nd rfl (Or.inl rfl) (pcall d_first_close hr (pa_cons (pv 1) pa_nil)))
    (pss_one (ps_ret (pe_tup (pa_cons (pe_slice sl_str (pv 1) (po_some pe_int) (po_some (pv 2))) (pa_cons (pe_slice sl_str (pv 1) (po_some (pe_op op_add (pv 2) pe_int)) po_none) pa_nil))))), ?_⟩
  obtain ⟨t, rfl, ht⟩ := th
  have ht : t.cps.toList = 40 :: (brk bl ++ 41 :: brk br) := ht
  have ha := brk_clo bl
  have hz : t.length ≤ 1000 := by rw [part_len ht, brk_len, brk_len]; omega
  have q : ∀ (p : Addr) (H' : Hp), Same H H' → H p = none → H' p = some (.tup [.str (Txt.slice t (some 1) (some (((brk bl).length : Int) + 1))), .str (Txt.slice t (some (((brk bl).length : Int) + 1 + 1)) none)]) → Q (.ref p) H' := fun p H' s f h => q p _ _ H' s h ⟨_, rfl, part_left ht⟩ ⟨_, rfl, part_right ht⟩
  generalize brk bl = a at ht ha q
  generalize brk br = b at ht
  have lz : t.length ≤ sizeLine := sz (by omega)
  refine ⟨_, rfl, t, a, b, rfl, ht, ha, hz, ?_⟩
  exact ⟨_, rfl, _, rfl, _, rfl, _, rfl, t, rfl, lz, _, rfl, _, rfl, _, _, rfl, rfl, _, rfl, t, rfl, lz, (by show 2 ≤ sizeLine; decide), fun p hp => q p _ (Same.new (Same.refl H) hp _) hp upd_same⟩
theorem ok_right_begin {er : Errs} (EO : ErrOk K mg er) {ca : ClA} (CA : ClOk K mg ca) {f : Addr} {fd : FuncData} (F : Fun K "right_begin" "right_begin" s_right_begin f fd) (m_range : mg "range" = none) (m_len : mg "len" = none) : FnOk P w K mg base CX0 1 f fd ["stairs"] (sp_right_begin K ca) := by
  refine F.ok sc_right_begin (fun vs H Q E h => ?_) (fun cdv A outer s H vs Q E hr h => ?_)
  · obtain ⟨l, ps, qs, a, b, rfl, hl, sp1, sq1, hz, q⟩ := h
    rfl
  obtain ⟨l, ps, qs, a, b, rfl, hl, sp1, sq1, hz, q⟩ := h
  refine ⟨_, pss_cons (ps_for PassesOwn.never rfl (pi_range2 rfl m_range (pa_cons pe_int (pa_cons (pe_callB call_len_seq rfl m_len bb_len (pa_cons (pv 0) pa_nil)) pa_nil))) (pg_name (i := 1) sc_right_begin.nd rfl (Or.inl rfl)) (pss_one (ps_if (pt_cmpR op_eq (pe_ix ix_list (pv 0) (pv 1) (fun _ _ => rfl)) (pv 1) (nomark _)) (pss_one (ps_ret (pv 1))) pss_nil)))
    (pss_one (ps_ret (pe_callB call_len_seq rfl m_len bb_len (pa_cons (pv 0) pa_nil)))), ?_⟩
  have lm : ((joinS ps qs).map V.int).length = (joinS ps qs).length := List.length_map _
  have lj := joinS_len ps qs
  refine ⟨_, rfl, l, _, rfl, .inl hl, _, _, rfl, ⟨by decide, by decide, by omega, by omega⟩, for_range (lo := 1) (n := ((((joinS ps qs).map V.int).length : Int) - 1).toNat) (fun i σ H' => ∃ (o : Option V), σ = [some (.ref l), o] ∧ H = H' ∧ i ≤ ps.length) ⟨_, rfl, rfl, Nat.zero_le _⟩ ?_ ?_⟩
  · rintro i σ H' hi ⟨o, rfl, rfl, hle⟩
    have at1 := atI_int (ns := joinS ps qs) (i := (1 : Int) + (i : Int)) (by omega) (by omega)
    have et : ((1 : Int) + (i : Int)).toNat = i + 1 := by omega
    rw [et] at at1
    refine ⟨_, rfl, _, rfl, l, _, _, _, rfl, rfl, hl, at1, _, rfl, rfl, _, rfl, ?_⟩
    by_cases hlt : i < ps.length
    · refine iteN (fun z => ?_) ⟨_, rfl, rfl, by omega⟩
      injection z with z
      exact joinS_left sp1 (show 1 ≤ i + 1 by omega) (by omega) (z.trans (by omega))
    · have ei : i = ps.length := by omega
      subst ei
      refine iteP (congrArg V.int ((joinS_right sq1 (by omega)).trans (by omega))) ?_
      refine ⟨_, rfl, ?_⟩
      rw [show (1 : Int) + (ps.length : Int) = ((ps.length + 1 : Nat) : Int) by omega]
      exact q
  · rintro σ H' ⟨o, rfl, rfl, hle⟩
    refine ⟨_, rfl, l, _, rfl, .inl hl, ?_⟩
    rw [show (((joinS ps qs).map V.int).length : Int) = ((ps.length + 1 : Nat) : Int) by omega]
    exact q
theorem ok_raised_by {er : Errs} (EO : ErrOk K mg er) {ca : ClA} (CA : ClOk K mg ca) {f : Addr} {fd : FuncData} (F : Fun K "raised_by" "raised_by" s_raised_by f fd) : FnOk P w K mg base CX0 1 f fd ["numbers", "step"] (sp_raised_by K ca) := by
  refine F.ok sc_raised_by (fun vs H Q E h => ?_) (fun cdv A outer s H vs Q E hr h => ?_)
  · obtain ⟨l, ns, d, rfl, hl, hz, q⟩ := h
    rfl
  obtain ⟨l, ns, d, rfl, hl, hz, q⟩ := h
  refine ⟨_, pss_one (ps_ret (pe_comp rfl (pi_list (pv 0)) rfl rfl rfl rfl (N := ["number", "step"]) (.own (.cap (j := 1) rfl rfl rfl .nil)) (fun _ _ _ _ _ _ => (pg_name (i := 0) (by show List.Nodup (["number", "step"] : List Str); decide +kernel) rfl (Or.inl rfl))) (fun _ _ _ _ _ _ => pts_nil) (fun _ _ _ _ _ _ => (pe_op op_add (pv 0) (pv 1))))), ?_⟩
  have ml : (ns.map V.int).length = ns.length := List.length_map _
  refine ⟨_, rfl, l, rfl, ⟨_, hl⟩, fun D hD => comp_list (fun v => match v with | .int c => .int (c + d) | v => v) (by rw [ml]; exact sz (by omega)) hl hD (fun i x H' R R0 hx hb hR => ?_) ?_⟩
  · obtain ⟨c, rfl⟩ := get_int hx
    exact ⟨Ext.set rfl, ttN (iteT ⟨_, rfl, _, rfl, _, _, rfl, rfl, hR⟩)⟩
  have e1 : (ns.map V.int).map (fun v => match v with | .int c => V.int (c + d) | v => v) = (ns.map (· + d)).map V.int := by rw [List.map_map, List.map_map]; rfl
  rw [e1]
  exact q D _ (Same.new (Same.refl H) hD _) hD upd_same
theorem ok_Stairs__parted {er : Errs} (EO : ErrOk K mg er) {ca : ClA} (CA : ClOk K mg ca) {fd : FuncData} (F : Fun K "parted" "Stairs.parted" s_Stairs__parted ca.f_Stairs__parted fd) {f0 : Addr} {fd0 : FuncData} (d_right_begin : Def P w K mg base "right_begin" ["stairs"] 1 (sp_right_begin K ca) f0 fd0) {f1 : Addr} {fd1 : FuncData} (d_raised_by : Def P w K mg base "raised_by" ["numbers", "step"] 1 (sp_raised_by K ca) f1 fd1) : FnOk P w K mg base CX0 2 ca.f_Stairs__parted fd ["self", "thing"] (sp_Stairs__parted K ca) := by
  refine F.ok sc_Stairs__parted (fun vs H Q E h => ?_) (fun cdv A outer s H vs Q E hr h => ?_)
  · obtain ⟨x, v, bl, br, rfl, th, h39, q⟩ := h
    rfl
  obtain ⟨x, v, bl, br, rfl, th, h39, q⟩ := h
  refine ⟨_, pss_cons (ps_set (i := 2) sc_Stairs__parted.nd rfl (Or.inl rfl) (pcall d_right_begin hr (pa_cons (pv 1) pa_nil)))
    (pss_one (ps_ret (pe_tup (pa_cons (pe_slice sl_list (pv 1) (po_some pe_int) (po_some (pv 2))) (pa_cons (pcall d_raised_by hr (pa_cons (pe_slice sl_list (pv 1) (po_some (pv 2)) po_none) (pa_cons (pe_un un_neg (pv 2)) pa_nil))) pa_nil))))), ?_⟩
  obtain ⟨d, rfl, hd⟩ := th
  have hd : H d = some (.lst ((joinS (stT bl) (stT br)).map V.int)) := hd
  obtain ⟨a, sp1⟩ := stT_St bl
  obtain ⟨b, sq1⟩ := stT_St br
  have lps : (stT bl).length ≤ 40 := by rw [stT_len]; omega
  have lqs : (stT br).length ≤ 40 := by rw [stT_len]; omega
  have q : ∀ (t l r : Addr) (H' : Hp), Same H H' → H l = none → H r = none → l ≠ r → H' t = some (.tup [.ref l, .ref r]) → H' l = some (.lst ((stT bl).map V.int)) → H' r = some (.lst ((stT br).map V.int)) → Q (.ref t) H' := fun t l r H' s _ _ _ h hl hr => q t _ _ H' s h ⟨l, rfl, hl⟩ ⟨r, rfl, hr⟩
  generalize stT bl = ps at hd sp1 lps q
  generalize stT br = qs at hd sq1 lqs q
  have c1 : cutV ((joinS ps qs).map V.int) (some 1) (some ((ps.length + 1 : Nat) : Int)) = ps.map V.int := by
    have := cutV_both ((joinS ps qs).map V.int) 1 (ps.length + 1) (by omega)
    rw [show ((1 : Nat) : Int) = 1 from rfl] at this
    rw [this, Nat.add_sub_cancel, ← List.map_drop, ← List.map_take]
    unfold joinS
    rw [List.append_assoc, List.drop_left' (by simp), List.take_left' rfl]
  have c2 : cutV ((joinS ps qs).map V.int) (some ((ps.length + 1 : Nat) : Int)) none = (qs.map (· + ((ps.length : Int) + 1))).map V.int := by
    rw [cutV_from, ← List.map_drop]
    unfold joinS
    rw [List.drop_left' (by simp)]
  refine ⟨_, rfl, d, ps, qs, a, b, rfl, SqL.of hd, sp1, sq1, by omega, ?_⟩
  refine ⟨_, rfl, _, rfl, _, rfl, _, rfl, d, _, rfl, SqL.of hd, fun l hl => ?_⟩
  rw [c1]
  have s1 := Same.new (Same.refl H) hl (.lst (ps.map V.int))
  have hl1 : upd H l (.lst (ps.map V.int)) l = some (.lst (ps.map V.int)) := upd_same
  generalize upd H l (.lst (ps.map V.int)) = H1 at s1 hl1 ⊢
  refine ⟨_, rfl, _, rfl, _, rfl, d, _, rfl, SqL.of (s1 _ _ hd), fun c hc => ?_⟩
  rw [c2]
  have s2 := Same.new s1 hc (.lst ((qs.map (· + ((ps.length : Int) + 1))).map V.int))
  have k2 := Same.new (Same.refl H1) hc (.lst ((qs.map (· + ((ps.length : Int) + 1))).map V.int))
  refine ⟨_, rfl, _, rfl, c, qs.map (· + ((ps.length : Int) + 1)), _, rfl, SqL.of upd_same, by simp; omega, fun r H3 s3 fr hr2 => ?_⟩
  have e2 : (qs.map (· + ((ps.length : Int) + 1))).map (· + -((ps.length + 1 : Nat) : Int)) = qs := by
    rw [show ((ps.length + 1 : Nat) : Int) = (ps.length : Int) + 1 by omega, map_up_down]
  rw [e2] at hr2
  have fr' : H r = none := s2.free fr
  have nlr : l ≠ r := ne_of_none (k2 _ _ hl1) fr
  refine ⟨(by show 2 ≤ sizeLine; decide), fun t ht => ?_⟩
  have s5 := Same.new (Same.refl _) ht (.tup [.ref l, .ref r])
  exact q t l r _ ((s2.trans s3).trans s5) hl fr' nlr upd_same (s5 _ _ (s3 _ _ (k2 _ _ hl1))) (s5 _ _ hr2)
theorem ok_Twins__parted {er : Errs} (EO : ErrOk K mg er) {ca : ClA} (CA : ClOk K mg ca) {fd : FuncData} (F : Fun K "parted" "Twins.parted" s_Twins__parted ca.f_Twins__parted fd) : FnOk P w K mg base CX0 1 ca.f_Twins__parted fd ["self", "thing"] (sp_Twins__parted K ca) := by
  refine F.ok sc_Twins__parted (fun vs H Q E h => ?_) (fun cdv A outer s H vs Q E hr h => ?_)
  · obtain ⟨x, v, bl, br, rfl, th, h39, q⟩ := h
    rfl
  obtain ⟨x, v, bl, br, rfl, th, h39, q⟩ := h
  refine ⟨_, pss_one (ps_ret (pe_tup (pa_cons (pe_ix ix_tup (pv 1) pe_int (fun _ _ => rfl)) (pa_cons (pe_ix ix_tup (pv 1) pe_int (fun _ _ => rfl)) pa_nil)))), ?_⟩
  obtain ⟨p, a, b, rfl, hp, tl, tr⟩ := th
  refine ⟨_, rfl, p, _, _, _, rfl, rfl, SqT.of hp, rfl, _, rfl, p, _, _, _, rfl, rfl, SqT.of hp, rfl, (by show 2 ≤ sizeLine; decide), fun t ht => ?_⟩
  have s1 := Same.new (Same.refl H) ht (.tup [a, b])
  exact q t a b _ s1 upd_same (Tw.same s1 tl) (Tw.same s1 tr)
theorem ok_Brackets__joined {er : Errs} (EO : ErrOk K mg er) {ca : ClA} (CA : ClOk K mg ca) {fd : FuncData} (F : Fun K "joined" "Brackets.joined" s_Brackets__joined ca.f_Brackets__joined fd) : FnOk P w K mg base CX0 1 ca.f_Brackets__joined fd ["self", "left", "right"] (sp_Brackets__joined K ca) := by
  refine F.ok sc_Brackets__joined (fun vs H Q E h => ?_) (fun cdv A outer s H vs Q E hr h => ?_)
  · obtain ⟨x, vl, vr, bl, br, rfl, thl, thr, h39, q⟩ := h
    rfl
  obtain ⟨x, vl, vr, bl, br, rfl, thl, thr, h39, q⟩ := h
  refine ⟨_, pss_one (ps_ret (pe_op op_add_str (pe_op op_add_str (pe_op op_add_str pe_str (pv 1)) pe_str) (pv 2))), ?_⟩
  obtain ⟨l, rfl, el⟩ := thl
  obtain ⟨r, rfl, er⟩ := thr
  have hl : l.length ≤ 1000 := by rw [← cps_len, el, brk_len]; omega
  have hr2 : r.length ≤ 1000 := by rw [← cps_len, er, brk_len]; omega
  have q : Q (.str (((Str.ofString "(" ++ l) ++ Str.ofString ")") ++ r)) H := q _ _ (Same.refl H) (fun p e => by cases e) ⟨_, rfl, by
    rw [app_codes, app_codes, app_codes, el, er]
    show _ = 40 :: (brk bl ++ 41 :: brk br)
    have c40 : (Str.ofString "(").cps.toList = [40] := by decide +kernel
    have c41 : (Str.ofString ")").cps.toList = [41] := by decide +kernel
    rw [c40, c41]
    simp⟩
  have l1 : (Str.ofString "(").length = 1 := by decide +kernel
  have l2 : (Str.ofString ")").length = 1 := by decide +kernel
  refine ⟨_, rfl, _, _, rfl, rfl, ?_, _, _, rfl, rfl, ?_, _, rfl, _, _, rfl, rfl, ?_, q⟩
  · exact sz (by omega)
  · rw [app_length]; exact sz (by omega)
  · rw [app_length, app_length]; exact sz (by omega)
theorem ok_Stairs__joined {er : Errs} (EO : ErrOk K mg er) {ca : ClA} (CA : ClOk K mg ca) {fd : FuncData} (F : Fun K "joined" "Stairs.joined" s_Stairs__joined ca.f_Stairs__joined fd) {f0 : Addr} {fd0 : FuncData} (d_raised_by : Def P w K mg base "raised_by" ["numbers", "step"] 1 (sp_raised_by K ca) f0 fd0) (m_len : mg "len" = none) : FnOk P w K mg base CX0 2 ca.f_Stairs__joined fd ["self", "left", "right"] (sp_Stairs__joined K ca) := by
  refine F.ok sc_Stairs__joined (fun vs H Q E h => ?_) (fun cdv A outer s H vs Q E hr h => ?_)
  · obtain ⟨x, vl, vr, bl, br, rfl, thl, thr, h39, q⟩ := h
    rfl
  obtain ⟨x, vl, vr, bl, br, rfl, thl, thr, h39, q⟩ := h
  refine ⟨_, pss_one (ps_ret (pe_op op_cat (pe_op op_cat (pe_lst (pa_cons pe_int pa_nil)) (pv 1)) (pcall d_raised_by hr (pa_cons (pv 2) (pa_cons (pe_op op_add (pe_callB call_len_seq rfl m_len bb_len (pa_cons (pv 1) pa_nil)) pe_int) pa_nil))))), ?_⟩
  obtain ⟨l, rfl, hl⟩ := thl
  obtain ⟨r, rfl, hr2⟩ := thr
  have lps : (stT bl).length ≤ 100 := by rw [stT_len]; omega
  have lqs : (stT br).length ≤ 100 := by rw [stT_len]; omega
  have q : ∀ (p : Addr) (H' : Hp), Same H H' → H p = none → H' p = some (.lst ((joinS (stT bl) (stT br)).map V.int)) → Q (.ref p) H' := fun p H' s f h => q _ _ s (fun _ e => by cases e; exact f) ⟨p, rfl, h⟩
  generalize stT bl = ps at hl lps q
  generalize stT br = qs at hr2 lqs q
  have ml : (ps.map V.int).length = ps.length := List.length_map _
  refine ⟨(by show 1 ≤ sizeLine; decide), fun p0 hp0 => ?_⟩
  have s1 := Same.new (Same.refl H) hp0 (.lst [.int 0])
  refine ⟨_, rfl, p0, l, _, _, rfl, rfl, upd_same, s1 _ _ hl, ?_, fun p1 hp1 => ?_⟩
  · rw [ml]; exact sz (by simp; omega)
  have s2 := Same.new s1 hp1 (.lst ([.int 0] ++ ps.map V.int))
  have h12 : upd (upd H p0 (.lst [.int 0])) p1 (.lst ([.int 0] ++ ps.map V.int)) p1 = some (.lst ([.int 0] ++ ps.map V.int)) := upd_same
  generalize upd (upd H p0 (.lst [.int 0])) p1 (.lst ([.int 0] ++ ps.map V.int)) = H2 at s2 h12 ⊢
  refine ⟨_, rfl, _, rfl, l, _, rfl, .inl (SqL.of (s2 _ _ hl)), _, _, rfl, rfl, ?_⟩
  try dsimp only
  rw [ml]
  refine ⟨r, qs, _, rfl, SqL.of (s2 _ _ hr2), by omega, fun D H3 s3 fD hD => ?_⟩
  have s23 := s2.trans s3
  refine ⟨p1, D, _, _, rfl, rfl, s3 _ _ h12, hD, ?_, fun p hp => ?_⟩
  · simp only [List.length_append, List.length_map]; exact sz (by simp; omega)
  refine q p _ (Same.new s23 hp _) (s23.free hp) ?_
  rw [upd_same]
  unfold joinS
  rw [List.map_append, List.map_append]
  rfl
theorem ok_Twins__joined {er : Errs} (EO : ErrOk K mg er) {ca : ClA} (CA : ClOk K mg ca) {fd : FuncData} (F : Fun K "joined" "Twins.joined" s_Twins__joined ca.f_Twins__joined fd) : FnOk P w K mg base CX0 1 ca.f_Twins__joined fd ["self", "left", "right"] (sp_Twins__joined K ca) := by
  refine F.ok sc_Twins__joined (fun vs H Q E h => ?_) (fun cdv A outer s H vs Q E hr h => ?_)
  · obtain ⟨x, vl, vr, bl, br, rfl, thl, thr, h39, q⟩ := h
    rfl
  obtain ⟨x, vl, vr, bl, br, rfl, thl, thr, h39, q⟩ := h
  refine ⟨_, pss_one (ps_ret (pe_tup (pa_cons (pv 1) (pa_cons (pv 2) pa_nil)))), ?_⟩
  refine ⟨_, rfl, _, rfl, (by show 2 ≤ sizeLine; decide), fun p hp => ?_⟩
  have s1 := Same.new (Same.refl H) hp (.tup [vl, vr])
  exact q _ _ s1 (fun _ e => by cases e; exact hp) ⟨p, vl, vr, rfl, upd_same, Tw.same s1 thl, Tw.same s1 thr⟩
theorem ok_led_by_parts {er : Errs} (EO : ErrOk K mg er) {ca : ClA} (CA : ClOk K mg ca) {f : Addr} {fd : FuncData} (F : Fun K "led_by_parts" "led_by_parts" s_led_by_parts f fd) {fd0 : FuncData} (d_Brackets__size_of : MDef P w K mg base ["self", "thing"] 1 (sp_Brackets__size_of K ca) ca.f_Brackets__size_of fd0) {fd1 : FuncData} (d_Stairs__size_of : MDef P w K mg base ["self", "thing"] 1 (sp_Stairs__size_of K ca) ca.f_Stairs__size_of fd1) {fd2 : FuncData} (d_Twins__size_of : MDef P w K mg base ["self", "thing"] 1 (sp_Twins__size_of K ca) ca.f_Twins__size_of fd2) {fd3 : FuncData} (d_Brackets__bare : MDef P w K mg base ["self"] 1 (sp_Brackets__bare K ca) ca.f_Brackets__bare fd3) {fd4 : FuncData} (d_Stairs__bare : MDef P w K mg base ["self"] 1 (sp_Stairs__bare K ca) ca.f_Stairs__bare fd4) {fd5 : FuncData} (d_Twins__bare : MDef P w K mg base ["self"] 1 (sp_Twins__bare K ca) ca.f_Twins__bare fd5) {fd6 : FuncData} (d_Brackets__parted : MDef P w K mg base ["self", "thing"] 2 (sp_Brackets__parted K ca) ca.f_Brackets__parted fd6) {fd7 : FuncData} (d_Stairs__parted : MDef P w K mg base ["self", "thing"] 2 (sp_Stairs__parted K ca) ca.f_Stairs__parted fd7) {fd8 : FuncData} (d_Twins__parted : MDef P w K mg base ["self", "thing"] 1 (sp_Twins__parted K ca) ca.f_Twins__parted fd8) {fd10 : FuncData} (d_Brackets__joined : MDef P w K mg base ["self", "left", "right"] 1 (sp_Brackets__joined K ca) ca.f_Brackets__joined fd10) {fd11 : FuncData} (d_Stairs__joined : MDef P w K mg base ["self", "left", "right"] 2 (sp_Stairs__joined K ca) ca.f_Stairs__joined fd11) {fd12 : FuncData} (d_Twins__joined : MDef P w K mg base ["self", "left", "right"] 1 (sp_Twins__joined K ca) ca.f_Twins__joined fd12) (n : Nat) (d_self : Def P w K mg base "led_by_parts" ["one", "other", "thing"] (2 + n) (below n fun m => sp_led_by_parts K ca m) f fd) : FnOk P w K mg base (CX1 P w) (2 + n + 1) f fd ["one", "other", "thing"] (sp_led_by_parts K ca n) := by
  refine FnOk.up ?_
  refine F.ok sc_led_by_parts (fun vs H Q E h => ?_) (fun cdv A outer s H vs Q E hr h => ?_)
  · obtain ⟨x, dx, fs, wd, y, dy, gs, we, w, u, v, t, rfl, hw, hu, kx, fl, ky, gl, th, hn, h40, q⟩ := h
    rfl
  obtain ⟨x, dx, fs, wd, y, dy, gs, we, w, u, v, t, rfl, hw, hu, kx, fl, ky, gl, th, hn, h40, q⟩ := h
  refine ⟨_, pss_cons (ps_if (pt_cmpR op_eq (pe_eit (pmeth (pv 0) CA.c_Brackets CA.mt_Brackets_size_of d_Brackets__size_of hr (pa_cons (pv 2) pa_nil) (hjk := by omega)) (pe_eit (pmeth (pv 0) CA.c_Stairs CA.mt_Stairs_size_of d_Stairs__size_of hr (pa_cons (pv 2) pa_nil) (hjk := by omega)) (pmeth (pv 0) CA.c_Twins CA.mt_Twins_size_of d_Twins__size_of hr (pa_cons (pv 2) pa_nil) (hjk := by omega)))) pe_int (nomark _)) (pss_one (ps_ret (pe_eit (pmeth0 (pv 1) CA.c_Brackets CA.mt_Brackets_bare d_Brackets__bare hr (hjk := by omega)) (pe_eit (pmeth0 (pv 1) CA.c_Stairs CA.mt_Stairs_bare d_Stairs__bare hr (hjk := by omega)) (pmeth0 (pv 1) CA.c_Twins CA.mt_Twins_bare d_Twins__bare hr (hjk := by omega)))))) pss_nil)
    (pss_cons (ps_set (i := 3) sc_led_by_parts.nd rfl (Or.inl rfl) (pe_eit (pmeth (pv 0) CA.c_Brackets CA.mt_Brackets_parted d_Brackets__parted hr (pa_cons (pv 2) pa_nil) (hjk := by omega)) (pe_eit (pmeth (pv 0) CA.c_Stairs CA.mt_Stairs_parted d_Stairs__parted hr (pa_cons (pv 2) pa_nil) (hjk := by omega)) (pmeth (pv 0) CA.c_Twins CA.mt_Twins_parted d_Twins__parted hr (pa_cons (pv 2) pa_nil) (hjk := by omega)))))
    (pss_cons (ps_set (i := 4) sc_led_by_parts.nd rfl (Or.inl rfl) (pcall d_self hr (pa_cons (pv 0) (pa_cons (pv 1) (pa_cons (pe_ix ix_tup (pv 3) pe_int (fun _ _ => rfl)) pa_nil))) (hjk := by omega)))
    (pss_cons (ps_set (i := 5) sc_led_by_parts.nd rfl (Or.inl rfl) (pcall d_self hr (pa_cons (pv 0) (pa_cons (pv 1) (pa_cons (pe_ix ix_tup (pv 3) pe_int (fun _ _ => rfl)) pa_nil))) (hjk := by omega)))
    (pss_one (ps_ret (pe_eit (pmeth (pv 1) CA.c_Brackets CA.mt_Brackets_joined d_Brackets__joined hr (pa_cons (pv 4) (pa_cons (pv 5) pa_nil)) (hjk := by omega)) (pe_eit (pmeth (pv 1) CA.c_Stairs CA.mt_Stairs_joined d_Stairs__joined hr (pa_cons (pv 4) (pa_cons (pv 5) pa_nil)) (hjk := by omega)) (pmeth (pv 1) CA.c_Twins CA.mt_Twins_joined d_Twins__joined hr (pa_cons (pv 4) (pa_cons (pv 5) pa_nil)) (hjk := by omega))))))))), ?_⟩
  rcases (by omega : w = 0 ∨ w = 1 ∨ w = 2) with rfl | rfl | rfl
  · have hx := kx.1 rfl
    refine (.inl ⟨_, rfl, x, dx, fs, rfl, hx, fl.no "size_of" (by decide) (by decide), _, rfl, x, v, t, rfl, th, by omega, fun H1 s1 => ⟨rfl, _, rfl, ?_⟩⟩)
    cases t with
    | leaf =>
      refine iteP rfl ?_
      rcases (by omega : u = 0 ∨ u = 1 ∨ u = 2) with rfl | rfl | rfl
      · skip
        have hy := ky.1 rfl
        exact (.inl ⟨_, rfl, y, dy, gs, rfl, s1 _ _ hy, gl.no "bare" (by decide) (by decide), y, rfl, fun g H2 s2 nw tg => q g H2 (s1.trans s2) (nw.back s1) tg⟩)
      · skip
        have hy := ky.2.1 rfl
        exact (.inr (.inl ⟨_, rfl, y, dy, gs, rfl, s1 _ _ hy, gl.no "bare" (by decide) (by decide), y, rfl, fun g H2 s2 nw tg => q g H2 (s1.trans s2) (nw.back s1) tg⟩))
      · skip
        have hy := ky.2.2 rfl
        exact (.inr (.inr ⟨_, rfl, y, dy, gs, rfl, s1 _ _ hy, gl.no "bare" (by decide) (by decide), y, rfl, fun g H2 s2 nw tg => q g H2 (s1.trans s2) (nw.back s1) tg⟩))
    
    | node l r =>
      have hn : l.size + r.size + 1 = n := hn
      refine iteN (fun z => by injection z with z; have z : ((l.size + r.size + 1 : Nat) : Int) = 0 := z; omega) ?_
      refine (.inl ⟨_, rfl, x, dx, fs, rfl, s1 _ _ hx, fl.no "parted" (by decide) (by decide), _, rfl, x, v, l, r, rfl, th.same s1, by omega, fun p vl vr H2 s2 hp tl tr => ?_⟩)
      have s12 := s1.trans s2
      refine ⟨_, rfl, _, rfl, _, rfl, p, _, _, _, rfl, rfl, SqT.of hp, rfl, l.size, by omega, x, dx, fs, wd, y, dy, gs, we, 0, u, vl, l, rfl, by decide, hu, kx.same s12, fl, ky.same s12, gl, tl, rfl, by omega, fun gl1 H3 s3 nw3 tg3 => ?_⟩
      have s13 := s12.trans s3
      refine ⟨_, rfl, _, rfl, _, rfl, p, _, _, _, rfl, rfl, SqT.of (s3 _ _ hp), rfl, r.size, by omega, x, dx, fs, wd, y, dy, gs, we, 0, u, vr, r, rfl, by decide, hu, kx.same s13, fl, ky.same s13, gl, tr.same s3, rfl, by omega, fun gr1 H4 s4 nw4 tg4 => ?_⟩
      have s14 := s13.trans s4
      rcases (by omega : u = 0 ∨ u = 1 ∨ u = 2) with rfl | rfl | rfl
      · skip
        have hy := ky.1 rfl
        exact (.inl ⟨_, rfl, y, dy, gs, rfl, s14 _ _ hy, gl.no "joined" (by decide) (by decide), _, rfl, _, rfl, y, gl1, gr1, l, r, rfl, tg3.same s4, tg4, by omega, fun g H5 s5 nw tg => q g H5 (s14.trans s5) (nw.back s14) tg⟩)
      · skip
        have hy := ky.2.1 rfl
        exact (.inr (.inl ⟨_, rfl, y, dy, gs, rfl, s14 _ _ hy, gl.no "joined" (by decide) (by decide), _, rfl, _, rfl, y, gl1, gr1, l, r, rfl, tg3.same s4, tg4, by omega, fun g H5 s5 nw tg => q g H5 (s14.trans s5) (nw.back s14) tg⟩))
      · skip
        have hy := ky.2.2 rfl
        exact (.inr (.inr ⟨_, rfl, y, dy, gs, rfl, s14 _ _ hy, gl.no "joined" (by decide) (by decide), _, rfl, _, rfl, y, gl1, gr1, l, r, rfl, tg3.same s4, tg4, by omega, fun g H5 s5 nw tg => q g H5 (s14.trans s5) (nw.back s14) tg⟩))
  · have hx := kx.2.1 rfl
    refine (.inr (.inl ⟨_, rfl, x, dx, fs, rfl, hx, fl.no "size_of" (by decide) (by decide), _, rfl, x, v, t, rfl, th, by omega, fun H1 s1 => ⟨rfl, _, rfl, ?_⟩⟩))
    cases t with
    | leaf =>
      refine iteP rfl ?_
      rcases (by omega : u = 0 ∨ u = 1 ∨ u = 2) with rfl | rfl | rfl
      · skip
        have hy := ky.1 rfl
        exact (.inl ⟨_, rfl, y, dy, gs, rfl, s1 _ _ hy, gl.no "bare" (by decide) (by decide), y, rfl, fun g H2 s2 nw tg => q g H2 (s1.trans s2) (nw.back s1) tg⟩)
      · skip
        have hy := ky.2.1 rfl
        exact (.inr (.inl ⟨_, rfl, y, dy, gs, rfl, s1 _ _ hy, gl.no "bare" (by decide) (by decide), y, rfl, fun g H2 s2 nw tg => q g H2 (s1.trans s2) (nw.back s1) tg⟩))
      · skip
        have hy := ky.2.2 rfl
        exact (.inr (.inr ⟨_, rfl, y, dy, gs, rfl, s1 _ _ hy, gl.no "bare" (by decide) (by decide), y, rfl, fun g H2 s2 nw tg => q g H2 (s1.trans s2) (nw.back s1) tg⟩))
    
    | node l r =>
      have hn : l.size + r.size + 1 = n := hn
      refine iteN (fun z => by injection z with z; have z : ((l.size + r.size + 1 : Nat) : Int) = 0 := z; omega) ?_
      refine (.inr (.inl ⟨_, rfl, x, dx, fs, rfl, s1 _ _ hx, fl.no "parted" (by decide) (by decide), _, rfl, x, v, l, r, rfl, th.same s1, by omega, fun p vl vr H2 s2 hp tl tr => ?_⟩))
      have s12 := s1.trans s2
      refine ⟨_, rfl, _, rfl, _, rfl, p, _, _, _, rfl, rfl, SqT.of hp, rfl, l.size, by omega, x, dx, fs, wd, y, dy, gs, we, 1, u, vl, l, rfl, by decide, hu, kx.same s12, fl, ky.same s12, gl, tl, rfl, by omega, fun gl1 H3 s3 nw3 tg3 => ?_⟩
      have s13 := s12.trans s3
      refine ⟨_, rfl, _, rfl, _, rfl, p, _, _, _, rfl, rfl, SqT.of (s3 _ _ hp), rfl, r.size, by omega, x, dx, fs, wd, y, dy, gs, we, 1, u, vr, r, rfl, by decide, hu, kx.same s13, fl, ky.same s13, gl, tr.same s3, rfl, by omega, fun gr1 H4 s4 nw4 tg4 => ?_⟩
      have s14 := s13.trans s4
      rcases (by omega : u = 0 ∨ u = 1 ∨ u = 2) with rfl | rfl | rfl
      · skip
        have hy := ky.1 rfl
        exact (.inl ⟨_, rfl, y, dy, gs, rfl, s14 _ _ hy, gl.no "joined" (by decide) (by decide), _, rfl, _, rfl, y, gl1, gr1, l, r, rfl, tg3.same s4, tg4, by omega, fun g H5 s5 nw tg => q g H5 (s14.trans s5) (nw.back s14) tg⟩)
      · skip
        have hy := ky.2.1 rfl
        exact (.inr (.inl ⟨_, rfl, y, dy, gs, rfl, s14 _ _ hy, gl.no "joined" (by decide) (by decide), _, rfl, _, rfl, y, gl1, gr1, l, r, rfl, tg3.same s4, tg4, by omega, fun g H5 s5 nw tg => q g H5 (s14.trans s5) (nw.back s14) tg⟩))
      · skip
        have hy := ky.2.2 rfl
        exact (.inr (.inr ⟨_, rfl, y, dy, gs, rfl, s14 _ _ hy, gl.no "joined" (by decide) (by decide), _, rfl, _, rfl, y, gl1, gr1, l, r, rfl, tg3.same s4, tg4, by omega, fun g H5 s5 nw tg => q g H5 (s14.trans s5) (nw.back s14) tg⟩))
  · have hx := kx.2.2 rfl
    refine (.inr (.inr ⟨_, rfl, x, dx, fs, rfl, hx, fl.no "size_of" (by decide) (by decide), _, rfl, x, v, t, rfl, th, by omega, fun H1 s1 => ⟨rfl, _, rfl, ?_⟩⟩))
    cases t with
    | leaf =>
      refine iteP rfl ?_
      rcases (by omega : u = 0 ∨ u = 1 ∨ u = 2) with rfl | rfl | rfl
      · skip
        have hy := ky.1 rfl
        exact (.inl ⟨_, rfl, y, dy, gs, rfl, s1 _ _ hy, gl.no "bare" (by decide) (by decide), y, rfl, fun g H2 s2 nw tg => q g H2 (s1.trans s2) (nw.back s1) tg⟩)
      · skip
        have hy := ky.2.1 rfl
        exact (.inr (.inl ⟨_, rfl, y, dy, gs, rfl, s1 _ _ hy, gl.no "bare" (by decide) (by decide), y, rfl, fun g H2 s2 nw tg => q g H2 (s1.trans s2) (nw.back s1) tg⟩))
      · skip
        have hy := ky.2.2 rfl
        exact (.inr (.inr ⟨_, rfl, y, dy, gs, rfl, s1 _ _ hy, gl.no "bare" (by decide) (by decide), y, rfl, fun g H2 s2 nw tg => q g H2 (s1.trans s2) (nw.back s1) tg⟩))
    
    | node l r =>
      have hn : l.size + r.size + 1 = n := hn
      refine iteN (fun z => by injection z with z; have z : ((l.size + r.size + 1 : Nat) : Int) = 0 := z; omega) ?_
      refine (.inr (.inr ⟨_, rfl, x, dx, fs, rfl, s1 _ _ hx, fl.no "parted" (by decide) (by decide), _, rfl, x, v, l, r, rfl, th.same s1, by omega, fun p vl vr H2 s2 hp tl tr => ?_⟩))
      have s12 := s1.trans s2
      refine ⟨_, rfl, _, rfl, _, rfl, p, _, _, _, rfl, rfl, SqT.of hp, rfl, l.size, by omega, x, dx, fs, wd, y, dy, gs, we, 2, u, vl, l, rfl, by decide, hu, kx.same s12, fl, ky.same s12, gl, tl, rfl, by omega, fun gl1 H3 s3 nw3 tg3 => ?_⟩
      have s13 := s12.trans s3
      refine ⟨_, rfl, _, rfl, _, rfl, p, _, _, _, rfl, rfl, SqT.of (s3 _ _ hp), rfl, r.size, by omega, x, dx, fs, wd, y, dy, gs, we, 2, u, vr, r, rfl, by decide, hu, kx.same s13, fl, ky.same s13, gl, tr.same s3, rfl, by omega, fun gr1 H4 s4 nw4 tg4 => ?_⟩
      have s14 := s13.trans s4
      rcases (by omega : u = 0 ∨ u = 1 ∨ u = 2) with rfl | rfl | rfl
      · skip
        have hy := ky.1 rfl
        exact (.inl ⟨_, rfl, y, dy, gs, rfl, s14 _ _ hy, gl.no "joined" (by decide) (by decide), _, rfl, _, rfl, y, gl1, gr1, l, r, rfl, tg3.same s4, tg4, by omega, fun g H5 s5 nw tg => q g H5 (s14.trans s5) (nw.back s14) tg⟩)
      · skip
        have hy := ky.2.1 rfl
        exact (.inr (.inl ⟨_, rfl, y, dy, gs, rfl, s14 _ _ hy, gl.no "joined" (by decide) (by decide), _, rfl, _, rfl, y, gl1, gr1, l, r, rfl, tg3.same s4, tg4, by omega, fun g H5 s5 nw tg => q g H5 (s14.trans s5) (nw.back s14) tg⟩))
      · skip
        have hy := ky.2.2 rfl
        exact (.inr (.inr ⟨_, rfl, y, dy, gs, rfl, s14 _ _ hy, gl.no "joined" (by decide) (by decide), _, rfl, _, rfl, y, gl1, gr1, l, r, rfl, tg3.same s4, tg4, by omega, fun g H5 s5 nw tg => q g H5 (s14.trans s5) (nw.back s14) tg⟩))
theorem ok_by_parts {er : Errs} (EO : ErrOk K mg er) {ca : ClA} (CA : ClOk K mg ca) {f : Addr} {fd : FuncData} (F : Fun K "by_parts" "by_parts" s_by_parts f fd) {fd0 : FuncData} (d_Brackets__Family_refuse_other : MDef P w K mg base ["self", "thing"] 3 (sp_Brackets__Family_refuse_other K ca er) ca.f_Brackets__Family_refuse_other fd0) {fd1 : FuncData} (d_Stairs__Family_refuse_other : MDef P w K mg base ["self", "thing"] 2 (sp_Stairs__Family_refuse_other K ca er) ca.f_Stairs__Family_refuse_other fd1) {fd2 : FuncData} (d_Twins__Family_refuse_other : MDef P w K mg base ["self", "thing"] 2 (sp_Twins__Family_refuse_other K ca er) ca.f_Twins__Family_refuse_other fd2) {f3 : Addr} {fd3 : FuncData} (d_led_by_parts : Def P w K mg base "led_by_parts" ["one", "other", "thing"] 44 (spA_led_by_parts K ca) f3 fd3) : FnOk P w K mg base (CX1 P w) 45 f fd ["one", "other", "thing"] (sp_by_parts K ca er) := by
  refine F.okE sc_by_parts (fun vs H Q E h => ?_) (fun cdv A outer s H vs Q E hr h => ?_)
  · obtain ⟨x, dx, fs, wd, y, dy, gs, we, w, u, v, rfl, hw, hu, kx, fl, ky, gl, q⟩ := h
    rfl
  obtain ⟨x, dx, fs, wd, y, dy, gs, we, w, u, v, rfl, hw, hu, kx, fl, ky, gl, q⟩ := h
  refine ⟨_, pss_cons (ps_expr (pe_eit (pmethT thr_def (pv 0) CA.c_Brackets CA.mt_Brackets_refuse_other d_Brackets__Family_refuse_other hr (pa_cons (pv 2) pa_nil)) (pe_eit (pmethT thr_def (pv 0) CA.c_Stairs CA.mt_Stairs_refuse_other d_Stairs__Family_refuse_other hr (pa_cons (pv 2) pa_nil)) (pmethT thr_def (pv 0) CA.c_Twins CA.mt_Twins_refuse_other d_Twins__Family_refuse_other hr (pa_cons (pv 2) pa_nil)))))
    (pss_one (ps_ret (pcall d_led_by_parts hr (pa_cons (pv 0) (pa_cons (pv 1) (pa_cons (pv 2) pa_nil)))))), ?_⟩
  rcases q with ⟨t, th, h40, q⟩ | ⟨⟨rfl, bad⟩ | ⟨rfl, bad⟩, q⟩
  · rcases (by omega : w = 0 ∨ w = 1 ∨ w = 2) with rfl | rfl | rfl
    · have hx := kx.1 rfl
      refine (.inl ⟨_, rfl, x, dx, fs, rfl, hx, fl.no "refuse_other" (by decide) (by decide), _, rfl, x, dx, fs, wd, v, rfl, hx, fl, .inl ⟨t, th, fun H1 s1 => ?_⟩⟩)
      exact ⟨_, rfl, _, rfl, _, rfl, t.size, by omega, x, dx, fs, wd, y, dy, gs, we, 0, u, v, t, rfl, by decide, hu, kx.same s1, fl, ky.same s1, gl, th.same s1, rfl, h40, fun g H2 s2 nw tg => q g H2 (s1.trans s2) (nw.back s1) tg⟩
    · have hx := kx.2.1 rfl
      refine (.inr (.inl ⟨_, rfl, x, dx, fs, rfl, hx, fl.no "refuse_other" (by decide) (by decide), _, rfl, x, dx, fs, wd, v, rfl, hx, fl, .inl ⟨t, th, fun H1 s1 => ?_⟩⟩))
      exact ⟨_, rfl, _, rfl, _, rfl, t.size, by omega, x, dx, fs, wd, y, dy, gs, we, 1, u, v, t, rfl, by decide, hu, kx.same s1, fl, ky.same s1, gl, th.same s1, rfl, h40, fun g H2 s2 nw tg => q g H2 (s1.trans s2) (nw.back s1) tg⟩
    · have hx := kx.2.2 rfl
      refine (.inr (.inr ⟨_, rfl, x, dx, fs, rfl, hx, fl.no "refuse_other" (by decide) (by decide), _, rfl, x, dx, fs, wd, v, rfl, hx, fl, .inl ⟨t, th, fun H1 s1 => ?_⟩⟩))
      exact ⟨_, rfl, _, rfl, _, rfl, t.size, by omega, x, dx, fs, wd, y, dy, gs, we, 2, u, v, t, rfl, by decide, hu, kx.same s1, fl, ky.same s1, gl, th.same s1, rfl, h40, fun g H2 s2 nw tg => q g H2 (s1.trans s2) (nw.back s1) tg⟩

  · have hx := kx.1 rfl
    exact (.inl ⟨_, rfl, x, dx, fs, rfl, hx, fl.no "refuse_other" (by decide) (by decide), _, rfl, x, dx, fs, wd, v, rfl, hx, fl, .inr ⟨bad, q⟩⟩)

  · have hx := kx.2.1 rfl
    exact (.inr (.inl ⟨_, rfl, x, dx, fs, rfl, hx, fl.no "refuse_other" (by decide) (by decide), _, rfl, x, dx, fs, wd, v, rfl, hx, fl, .inr ⟨bad, q⟩⟩))
theorem ok_Brackets__Family___init__ {er : Errs} (EO : ErrOk K mg er) {ca : ClA} (CA : ClOk K mg ca) {fd : FuncData} (F : Fun K "__init__" "Family.__init__" s_Brackets__Family___init__ ca.f_Brackets__Family___init__ fd) : FnOk P w K mg base CX0 1 ca.f_Brackets__Family___init__ fd ["self", "word", "least"] (sp_Brackets__Family___init__ K ca) := by
  refine F.ok sc_Brackets__Family___init__ (fun vs H Q E h => ?_) (fun cdv A outer s H vs Q E hr h => ?_)
  · obtain ⟨x, dx, w, l, rfl, hx, q⟩ := h
    rfl
  obtain ⟨x, dx, w, l, rfl, hx, q⟩ := h
  refine ⟨_, pss_cons (ps_fld (pv 0) (pv 1) rfl)
    (pss_one (ps_fld (pv 0) (pv 2) rfl)), ?_⟩
  refine ⟨_, rfl, _, rfl, x, ca.C_Brackets, dx, _, rfl, hx, CA.c_Brackets, CA.na_Brackets_word, (by show 0 < 1000; decide), ?_⟩
  refine ⟨_, rfl, _, rfl, x, ca.C_Brackets, dx, _, rfl, upd_same, CA.c_Brackets, CA.na_Brackets_least, (by show 1 < 1000; decide), ?_⟩
  exact q _ _ upd_upd (flds_mk w l)
theorem ok_Brackets__SplitFamily___init__ {er : Errs} (EO : ErrOk K mg er) {ca : ClA} (CA : ClOk K mg ca) {fd : FuncData} (F : Fun K "__init__" "SplitFamily.__init__" s_Brackets__SplitFamily___init__ ca.f_Brackets__SplitFamily___init__ fd) {fd0 : FuncData} (d_Brackets__Family___init__ : MDef P w K mg base ["self", "word", "least"] 1 (sp_Brackets__Family___init__ K ca) ca.f_Brackets__Family___init__ fd0) : FnOk P w K mg base CX0 3 ca.f_Brackets__SplitFamily___init__ fd ["self", "word"] (sp_Brackets__SplitFamily___init__ K ca) := by
  refine F.ok sc_Brackets__SplitFamily___init__ (fun vs H Q E h => ?_) (fun cdv A outer s H vs Q E hr h => ?_)
  · obtain ⟨x, dx, w, rfl, hx, q⟩ := h
    rfl
  obtain ⟨x, dx, w, rfl, hx, q⟩ := h
  refine ⟨_, pss_one (ps_expr (pcls CA.m_Family CA.cm_Family___init___Brackets d_Brackets__Family___init__ hr (pa_cons (pv 0) (pa_cons (pv 1) (pa_cons pe_int pa_nil))))), ?_⟩
  exact ⟨_, rfl, _, rfl, x, dx, w, 0, rfl, hx, fun fs H' e f => q fs H' e f⟩
theorem ok_Brackets____init__ {er : Errs} (EO : ErrOk K mg er) {ca : ClA} (CA : ClOk K mg ca) {fd : FuncData} (F : Fun K "__init__" "Brackets.__init__" s_Brackets____init__ ca.f_Brackets____init__ fd) {fd0 : FuncData} (d_Brackets__SplitFamily___init__ : MDef P w K mg base ["self", "word"] 3 (sp_Brackets__SplitFamily___init__ K ca) ca.f_Brackets__SplitFamily___init__ fd0) : FnOk P w K mg base CX0 5 ca.f_Brackets____init__ fd ["self"] (sp_Brackets____init__ K ca) := by
  refine F.ok sc_Brackets____init__ (fun vs H Q E h => ?_) (fun cdv A outer s H vs Q E hr h => ?_)
  · obtain ⟨x, dx, rfl, hx, q⟩ := h
    rfl
  obtain ⟨x, dx, rfl, hx, q⟩ := h
  refine ⟨_, pss_one (ps_expr (pcls CA.m_SplitFamily CA.cm_SplitFamily___init___Brackets d_Brackets__SplitFamily___init__ hr (pa_cons (pv 0) (pa_cons pe_str pa_nil)))), ?_⟩
  exact ⟨_, rfl, x, dx, _, rfl, hx, fun fs H' e f => q fs H' e f⟩
theorem ok_Stairs__Family___init__ {er : Errs} (EO : ErrOk K mg er) {ca : ClA} (CA : ClOk K mg ca) {fd : FuncData} (F : Fun K "__init__" "Family.__init__" s_Stairs__Family___init__ ca.f_Stairs__Family___init__ fd) : FnOk P w K mg base CX0 1 ca.f_Stairs__Family___init__ fd ["self", "word", "least"] (sp_Stairs__Family___init__ K ca) := by
  refine F.ok sc_Stairs__Family___init__ (fun vs H Q E h => ?_) (fun cdv A outer s H vs Q E hr h => ?_)
  · obtain ⟨x, dx, w, l, rfl, hx, q⟩ := h
    rfl
  obtain ⟨x, dx, w, l, rfl, hx, q⟩ := h
  refine ⟨_, pss_cons (ps_fld (pv 0) (pv 1) rfl)
    (pss_one (ps_fld (pv 0) (pv 2) rfl)), ?_⟩
  refine ⟨_, rfl, _, rfl, x, ca.C_Stairs, dx, _, rfl, hx, CA.c_Stairs, CA.na_Stairs_word, (by show 0 < 1000; decide), ?_⟩
  refine ⟨_, rfl, _, rfl, x, ca.C_Stairs, dx, _, rfl, upd_same, CA.c_Stairs, CA.na_Stairs_least, (by show 1 < 1000; decide), ?_⟩
  exact q _ _ upd_upd (flds_mk w l)
theorem ok_Stairs__SplitFamily___init__ {er : Errs} (EO : ErrOk K mg er) {ca : ClA} (CA : ClOk K mg ca) {fd : FuncData} (F : Fun K "__init__" "SplitFamily.__init__" s_Stairs__SplitFamily___init__ ca.f_Stairs__SplitFamily___init__ fd) {fd0 : FuncData} (d_Stairs__Family___init__ : MDef P w K mg base ["self", "word", "least"] 1 (sp_Stairs__Family___init__ K ca) ca.f_Stairs__Family___init__ fd0) : FnOk P w K mg base CX0 3 ca.f_Stairs__SplitFamily___init__ fd ["self", "word"] (sp_Stairs__SplitFamily___init__ K ca) := by
  refine F.ok sc_Stairs__SplitFamily___init__ (fun vs H Q E h => ?_) (fun cdv A outer s H vs Q E hr h => ?_)
  · obtain ⟨x, dx, w, rfl, hx, q⟩ := h
    rfl
  obtain ⟨x, dx, w, rfl, hx, q⟩ := h
  refine ⟨_, pss_one (ps_expr (pcls CA.m_Family CA.cm_Family___init___Stairs d_Stairs__Family___init__ hr (pa_cons (pv 0) (pa_cons (pv 1) (pa_cons pe_int pa_nil))))), ?_⟩
  exact ⟨_, rfl, _, rfl, x, dx, w, 0, rfl, hx, fun fs H' e f => q fs H' e f⟩
theorem ok_Stairs____init__ {er : Errs} (EO : ErrOk K mg er) {ca : ClA} (CA : ClOk K mg ca) {fd : FuncData} (F : Fun K "__init__" "Stairs.__init__" s_Stairs____init__ ca.f_Stairs____init__ fd) {fd0 : FuncData} (d_Stairs__SplitFamily___init__ : MDef P w K mg base ["self", "word"] 3 (sp_Stairs__SplitFamily___init__ K ca) ca.f_Stairs__SplitFamily___init__ fd0) : FnOk P w K mg base CX0 5 ca.f_Stairs____init__ fd ["self"] (sp_Stairs____init__ K ca) := by
  refine F.ok sc_Stairs____init__ (fun vs H Q E h => ?_) (fun cdv A outer s H vs Q E hr h => ?_)
  · obtain ⟨x, dx, rfl, hx, q⟩ := h
    rfl
  obtain ⟨x, dx, rfl, hx, q⟩ := h
  refine ⟨_, pss_one (ps_expr (pcls CA.m_SplitFamily CA.cm_SplitFamily___init___Stairs d_Stairs__SplitFamily___init__ hr (pa_cons (pv 0) (pa_cons pe_str pa_nil)))), ?_⟩
  exact ⟨_, rfl, x, dx, _, rfl, hx, fun fs H' e f => q fs H' e f⟩
theorem ok_Twins__Family___init__ {er : Errs} (EO : ErrOk K mg er) {ca : ClA} (CA : ClOk K mg ca) {fd : FuncData} (F : Fun K "__init__" "Family.__init__" s_Twins__Family___init__ ca.f_Twins__Family___init__ fd) : FnOk P w K mg base CX0 1 ca.f_Twins__Family___init__ fd ["self", "word", "least"] (sp_Twins__Family___init__ K ca) := by
  refine F.ok sc_Twins__Family___init__ (fun vs H Q E h => ?_) (fun cdv A outer s H vs Q E hr h => ?_)
  · obtain ⟨x, dx, w, l, rfl, hx, q⟩ := h
    rfl
  obtain ⟨x, dx, w, l, rfl, hx, q⟩ := h
  refine ⟨_, pss_cons (ps_fld (pv 0) (pv 1) rfl)
    (pss_one (ps_fld (pv 0) (pv 2) rfl)), ?_⟩
  refine ⟨_, rfl, _, rfl, x, ca.C_Twins, dx, _, rfl, hx, CA.c_Twins, CA.na_Twins_word, (by show 0 < 1000; decide), ?_⟩
  refine ⟨_, rfl, _, rfl, x, ca.C_Twins, dx, _, rfl, upd_same, CA.c_Twins, CA.na_Twins_least, (by show 1 < 1000; decide), ?_⟩
  exact q _ _ upd_upd (flds_mk w l)
theorem ok_Twins__SplitFamily___init__ {er : Errs} (EO : ErrOk K mg er) {ca : ClA} (CA : ClOk K mg ca) {fd : FuncData} (F : Fun K "__init__" "SplitFamily.__init__" s_Twins__SplitFamily___init__ ca.f_Twins__SplitFamily___init__ fd) {fd0 : FuncData} (d_Twins__Family___init__ : MDef P w K mg base ["self", "word", "least"] 1 (sp_Twins__Family___init__ K ca) ca.f_Twins__Family___init__ fd0) : FnOk P w K mg base CX0 3 ca.f_Twins__SplitFamily___init__ fd ["self", "word"] (sp_Twins__SplitFamily___init__ K ca) := by
  refine F.ok sc_Twins__SplitFamily___init__ (fun vs H Q E h => ?_) (fun cdv A outer s H vs Q E hr h => ?_)
  · obtain ⟨x, dx, w, rfl, hx, q⟩ := h
    rfl
  obtain ⟨x, dx, w, rfl, hx, q⟩ := h
  refine ⟨_, pss_one (ps_expr (pcls CA.m_Family CA.cm_Family___init___Twins d_Twins__Family___init__ hr (pa_cons (pv 0) (pa_cons (pv 1) (pa_cons pe_int pa_nil))))), ?_⟩
  exact ⟨_, rfl, _, rfl, x, dx, w, 0, rfl, hx, fun fs H' e f => q fs H' e f⟩
theorem ok_Twins____init__ {er : Errs} (EO : ErrOk K mg er) {ca : ClA} (CA : ClOk K mg ca) {fd : FuncData} (F : Fun K "__init__" "Twins.__init__" s_Twins____init__ ca.f_Twins____init__ fd) {fd0 : FuncData} (d_Twins__SplitFamily___init__ : MDef P w K mg base ["self", "word"] 3 (sp_Twins__SplitFamily___init__ K ca) ca.f_Twins__SplitFamily___init__ fd0) : FnOk P w K mg base CX0 5 ca.f_Twins____init__ fd ["self"] (sp_Twins____init__ K ca) := by
  refine F.ok sc_Twins____init__ (fun vs H Q E h => ?_) (fun cdv A outer s H vs Q E hr h => ?_)
  · obtain ⟨x, dx, rfl, hx, q⟩ := h
    rfl
  obtain ⟨x, dx, rfl, hx, q⟩ := h
  refine ⟨_, pss_one (ps_expr (pcls CA.m_SplitFamily CA.cm_SplitFamily___init___Twins d_Twins__SplitFamily___init__ hr (pa_cons (pv 0) (pa_cons pe_str pa_nil)))), ?_⟩
  exact ⟨_, rfl, x, dx, _, rfl, hx, fun fs H' e f => q fs H' e f⟩
theorem ok__law_kin {er : Errs} (EO : ErrOk K mg er) {ca : ClA} (CA : ClOk K mg ca) {f : Addr} {fd : FuncData} (F : Fun K "_law_kin" "_law_kin" s__law_kin f fd) {fd0 : FuncData} (d_Brackets____init__ : MDef P w K mg base ["self"] 5 (sp_Brackets____init__ K ca) ca.f_Brackets____init__ fd0) {fd1 : FuncData} (d_Stairs____init__ : MDef P w K mg base ["self"] 5 (sp_Stairs____init__ K ca) ca.f_Stairs____init__ fd1) {fd2 : FuncData} (d_Twins____init__ : MDef P w K mg base ["self"] 5 (sp_Twins____init__ K ca) ca.f_Twins____init__ fd2) : FnOk P w K mg base CX0 7 f fd ["_law_way"] (sp__law_kin K ca) := by
  refine F.ok sc__law_kin (fun vs H Q E h => ?_) (fun cdv A outer s H vs Q E hr h => ?_)
  · obtain ⟨w, rfl, hw, q⟩ := h
    rfl
  obtain ⟨w, rfl, hw, q⟩ := h
  refine ⟨_, pss_cons (ps_if (pt_cmpR op_eq (pv 0) pe_int (nomark _)) (pss_one (ps_ret (pmake0 CA.mk_Brackets CA.m_Brackets d_Brackets____init__ hr))) pss_nil)
    (pss_cons (ps_if (pt_cmpR op_eq (pv 0) pe_int (nomark _)) (pss_one (ps_ret (pmake0 CA.mk_Stairs CA.m_Stairs d_Stairs____init__ hr))) pss_nil)
    (pss_one (ps_ret (pmake0 CA.mk_Twins CA.m_Twins d_Twins____init__ hr)))), ?_⟩
  rcases (by omega : w = 0 ∨ w = 1 ∨ w = 2) with rfl | rfl | rfl
  · refine ⟨_, rfl, rfl, _, rfl, iteP rfl ?_⟩
    intro x dx nx ndx nex
    refine ⟨x, dx, rfl, upd_same, fun fs H1 e1 fl => ⟨rfl, ?_⟩⟩
    have s1 : Same H H1 := by rw [e1]; exact ((Same.new (Same.refl H) ndx _).upd nx _).upd nx _
    have hx1 : H1 x = some (.ins ca.C_Brackets dx fs) := by rw [e1]; exact upd_same

    exact q x dx fs _ H1 s1 (fun _ => hx1) (fun z => absurd z (by decide)) (fun z => absurd z (by decide)) fl
  · refine ⟨_, rfl, rfl, _, rfl, iteN (by decide) ⟨_, rfl, rfl, _, rfl, iteP rfl ?_⟩⟩
    intro x dx nx ndx nex
    refine ⟨x, dx, rfl, upd_same, fun fs H1 e1 fl => ⟨rfl, ?_⟩⟩
    have s1 : Same H H1 := by rw [e1]; exact ((Same.new (Same.refl H) ndx _).upd nx _).upd nx _
    have hx1 : H1 x = some (.ins ca.C_Stairs dx fs) := by rw [e1]; exact upd_same

    exact q x dx fs _ H1 s1 (fun z => absurd z (by decide)) (fun _ => hx1) (fun z => absurd z (by decide)) fl
  · refine ⟨_, rfl, rfl, _, rfl, iteN (by decide) ⟨_, rfl, rfl, _, rfl, iteN (by decide) ?_⟩⟩
    intro x dx nx ndx nex
    refine ⟨x, dx, rfl, upd_same, fun fs H1 e1 fl => ⟨rfl, ?_⟩⟩
    have s1 : Same H H1 := by rw [e1]; exact ((Same.new (Same.refl H) ndx _).upd nx _).upd nx _
    have hx1 : H1 x = some (.ins ca.C_Twins dx fs) := by rw [e1]; exact upd_same

    exact q x dx fs _ H1 s1 (fun z => absurd z (by decide)) (fun z => absurd z (by decide)) (fun _ => hx1) fl
theorem ok__law_classes {er : Errs} (EO : ErrOk K mg er) {ca : ClA} (CA : ClOk K mg ca) {f : Addr} {fd : FuncData} (F : Fun K "_law_classes" "_law_classes" s__law_classes f fd) (m_isinstance : mg "isinstance" = none) (m_ValueError : mg "ValueError" = none) : FnOk P w K mg base CX0 1 f fd ["_law_error"] (sp__law_classes K ca er) := by
  refine F.ok sc__law_classes (fun vs H Q E h => ?_) (fun cdv A outer s H vs Q E hr h => ?_)
  · obtain ⟨e, c, t, rfl, he, ht, q⟩ := h
    rfl
  obtain ⟨e, c, t, rfl, he, ht, q⟩ := h
  refine ⟨_, pss_cons (ps_set (i := 1) sc__law_classes.nd rfl (Or.inl rfl) (pe_lst pa_nil))
    (pss_cons (ps_if (pt_val (pe_callB (call_isinstX) rfl m_isinstance bb_isinstance (pa_cons (pv 0) (pa_cons (pe_glob (v := .ref er.size) rfl EO.m_size rfl) pa_nil)))) (pss_one (ps_expr (pe_bm PySem.F.plainAttrs_list PySem.F.slot_list_append PySem.F.type_list_append mt_append (pv 1) (pa_cons pe_str pa_nil)))) pss_nil)
    (pss_cons (ps_if (pt_val (pe_callB (call_isinstX) rfl m_isinstance bb_isinstance (pa_cons (pv 0) (pa_cons (pe_glob (v := .ref er.number) rfl EO.m_number rfl) pa_nil)))) (pss_one (ps_expr (pe_bm PySem.F.plainAttrs_list PySem.F.slot_list_append PySem.F.type_list_append mt_append (pv 1) (pa_cons pe_str pa_nil)))) pss_nil)
    (pss_cons (ps_if (pt_val (pe_callB (call_isinstX) rfl m_isinstance bb_isinstance (pa_cons (pv 0) (pa_cons (pe_glob (v := .ref er.thing) rfl EO.m_thing rfl) pa_nil)))) (pss_one (ps_expr (pe_bm PySem.F.plainAttrs_list PySem.F.slot_list_append PySem.F.type_list_append mt_append (pv 1) (pa_cons pe_str pa_nil)))) pss_nil)
    (pss_cons (ps_if (PW.pt (pw_or (pt_val (pe_callB (call_isinstX) rfl m_isinstance bb_isinstance (pa_cons (pv 0) (pa_cons (pe_glob (v := .ref er.family) rfl EO.m_family rfl) pa_nil)))) (pw_or (pt_val (pe_callB (call_isinstX) rfl m_isinstance bb_isinstance (pa_cons (pv 0) (pa_cons (pe_glob (v := .ref er.way) rfl EO.m_way rfl) pa_nil)))) (pw_or1 (pt_val (pe_callB (call_isinstX) rfl m_isinstance bb_isinstance (pa_cons (pv 0) (pa_cons (pe_glob (v := .ref er.apart) rfl EO.m_apart rfl) pa_nil)))))))) (pss_one (ps_expr (pe_bm PySem.F.plainAttrs_list PySem.F.slot_list_append PySem.F.type_list_append mt_append (pv 1) (pa_cons pe_str pa_nil)))) pss_nil)
    (pss_cons (ps_if (PW.pt (pw_or (pt_val (pe_callB (call_isinstX) rfl m_isinstance bb_isinstance (pa_cons (pv 0) (pa_cons (pe_glob (v := .ref er.mark) rfl EO.m_mark rfl) pa_nil)))) (pw_or (pt_val (pe_callB (call_isinstX) rfl m_isinstance bb_isinstance (pa_cons (pv 0) (pa_cons (pe_glob (v := .ref er.text) rfl EO.m_text rfl) pa_nil)))) (pw_or1 (pt_val (pe_callB (call_isinstX) rfl m_isinstance bb_isinstance (pa_cons (pv 0) (pa_cons (pe_glob (v := .ref er.broken) rfl EO.m_broken rfl) pa_nil)))))))) (pss_one (ps_expr (pe_bm PySem.F.plainAttrs_list PySem.F.slot_list_append PySem.F.type_list_append mt_append (pv 1) (pa_cons pe_str pa_nil)))) pss_nil)
    (pss_cons (ps_if (pt_not (pt_val (pe_callB (call_isinstX) rfl m_isinstance bb_isinstance (pa_cons (pv 0) (pa_cons (pe_bltn (v := .ty "ValueError") rfl m_ValueError bb_ValueError rfl) pa_nil))))) (pss_one (ps_expr (pe_bm PySem.F.plainAttrs_list PySem.F.slot_list_append PySem.F.type_list_append mt_append (pv 1) (pa_cons pe_str pa_nil)))) pss_nil)
    (pss_one (ps_ret (pv 1))))))))), ?_⟩
  refine ⟨Nat.zero_le _, fun p hp => ?_⟩
  have s1 := Same.new (Same.refl H) hp (.lst [])
  have he1 : upd H p (.lst []) e = some (excO e (.ref c)) := s1 _ _ he
  have nep : e ≠ p := ne_of_none he hp
  have he2 : ∀ o, upd (upd H p (.lst [])) p o e = some (excO e (.ref c)) := fun o => (upd_ne nep).trans he1
  have s2 : ∀ o, Same H (upd (upd H p (.lst [])) p o) := fun o => s1.upd hp o
  have l0 : ([] : List V).length < sizeLine := sz' (n := 0) (by decide)
  rcases ht with ⟨rfl, rfl⟩ | ⟨rfl, rfl⟩ | ⟨rfl, rfl⟩
  · refine ⟨_, rfl, e, _, _, _, _, rfl, relRef, he1, EO.k_size, EO.size_size, _, rfl, iteT ⟨_, rfl, .inl ⟨rfl, _, SqL.of upd_same⟩, p, _, _, rfl, rfl, upd_same, l0, ?_⟩⟩
    refine ⟨_, rfl, e, _, _, _, _, rfl, relRef, he2 _, EO.k_size, EO.size_number, _, rfl, iteF ?_⟩
    refine ⟨_, rfl, e, _, _, _, _, rfl, relRef, he2 _, EO.k_size, EO.size_thing, _, rfl, iteF ?_⟩
    refine ⟨_, rfl, e, _, _, _, _, rfl, relRef, he2 _, EO.k_size, EO.size_family, _, rfl, iteF ⟨_, rfl, e, _, _, _, _, rfl, relRef, he2 _, EO.k_size, EO.size_way, _, rfl, iteF ⟨_, rfl, e, _, _, _, _, rfl, relRef, he2 _, EO.k_size, EO.size_apart, _, rfl, iteF ?_⟩⟩⟩
    refine ⟨_, rfl, e, _, _, _, _, rfl, relRef, he2 _, EO.k_size, EO.size_mark, _, rfl, iteF ⟨_, rfl, e, _, _, _, _, rfl, relRef, he2 _, EO.k_size, EO.size_text, _, rfl, iteF ⟨_, rfl, e, _, _, _, _, rfl, relRef, he2 _, EO.k_size, EO.size_broken, _, rfl, iteF ?_⟩⟩⟩
    refine ⟨_, rfl, e, _, _, _, _, rfl, relTy, he2 _, EO.k_size, EO.size_value, _, rfl, iteF ⟨_, rfl, q p _ (s2 _) hp upd_same⟩⟩
  · refine ⟨_, rfl, e, _, _, _, _, rfl, relRef, he1, EO.k_number, EO.number_size, _, rfl, iteF ?_⟩
    refine ⟨_, rfl, e, _, _, _, _, rfl, relRef, he1, EO.k_number, EO.number_number, _, rfl, iteT ⟨_, rfl, .inl ⟨rfl, _, SqL.of upd_same⟩, p, _, _, rfl, rfl, upd_same, l0, ?_⟩⟩
    refine ⟨_, rfl, e, _, _, _, _, rfl, relRef, he2 _, EO.k_number, EO.number_thing, _, rfl, iteF ?_⟩
    refine ⟨_, rfl, e, _, _, _, _, rfl, relRef, he2 _, EO.k_number, EO.number_family, _, rfl, iteF ⟨_, rfl, e, _, _, _, _, rfl, relRef, he2 _, EO.k_number, EO.number_way, _, rfl, iteF ⟨_, rfl, e, _, _, _, _, rfl, relRef, he2 _, EO.k_number, EO.number_apart, _, rfl, iteF ?_⟩⟩⟩
    refine ⟨_, rfl, e, _, _, _, _, rfl, relRef, he2 _, EO.k_number, EO.number_mark, _, rfl, iteF ⟨_, rfl, e, _, _, _, _, rfl, relRef, he2 _, EO.k_number, EO.number_text, _, rfl, iteF ⟨_, rfl, e, _, _, _, _, rfl, relRef, he2 _, EO.k_number, EO.number_broken, _, rfl, iteF ?_⟩⟩⟩
    refine ⟨_, rfl, e, _, _, _, _, rfl, relTy, he2 _, EO.k_number, EO.number_value, _, rfl, iteF ⟨_, rfl, q p _ (s2 _) hp upd_same⟩⟩
  · refine ⟨_, rfl, e, _, _, _, _, rfl, relRef, he1, EO.k_thing, EO.thing_size, _, rfl, iteF ?_⟩
    refine ⟨_, rfl, e, _, _, _, _, rfl, relRef, he1, EO.k_thing, EO.thing_number, _, rfl, iteF ?_⟩
    refine ⟨_, rfl, e, _, _, _, _, rfl, relRef, he1, EO.k_thing, EO.thing_thing, _, rfl, iteT ⟨_, rfl, .inl ⟨rfl, _, SqL.of upd_same⟩, p, _, _, rfl, rfl, upd_same, l0, ?_⟩⟩
    refine ⟨_, rfl, e, _, _, _, _, rfl, relRef, he2 _, EO.k_thing, EO.thing_family, _, rfl, iteF ⟨_, rfl, e, _, _, _, _, rfl, relRef, he2 _, EO.k_thing, EO.thing_way, _, rfl, iteF ⟨_, rfl, e, _, _, _, _, rfl, relRef, he2 _, EO.k_thing, EO.thing_apart, _, rfl, iteF ?_⟩⟩⟩
    refine ⟨_, rfl, e, _, _, _, _, rfl, relRef, he2 _, EO.k_thing, EO.thing_mark, _, rfl, iteF ⟨_, rfl, e, _, _, _, _, rfl, relRef, he2 _, EO.k_thing, EO.thing_text, _, rfl, iteF ⟨_, rfl, e, _, _, _, _, rfl, relRef, he2 _, EO.k_thing, EO.thing_broken, _, rfl, iteF ?_⟩⟩⟩
    refine ⟨_, rfl, e, _, _, _, _, rfl, relTy, he2 _, EO.k_thing, EO.thing_value, _, rfl, iteF ⟨_, rfl, q p _ (s2 _) hp upd_same⟩⟩
theorem ok__law_refused {er : Errs} (EO : ErrOk K mg er) {ca : ClA} (CA : ClOk K mg ca) {f : Addr} {fd : FuncData} (F : Fun K "_law_refused" "_law_refused" s__law_refused f fd) {f0 : Addr} {fd0 : FuncData} (d_by_parts : Def P w K mg base "by_parts" ["one", "other", "thing"] 45 (sp_by_parts K ca er) f0 fd0) {f1 : Addr} {fd1 : FuncData} (d__law_kin : Def P w K mg base "_law_kin" ["_law_way"] 7 (sp__law_kin K ca) f1 fd1) {f2 : Addr} {fd2 : FuncData} (d__law_classes : Def P w K mg base "_law_classes" ["_law_error"] 1 (sp__law_classes K ca er) f2 fd2) : FnOk P w K mg base CX0 46 f fd ["_law_way", "_law_other", "_law_thing_here"] (sp__law_refused K ca er) := by
  refine F.ok sc__law_refused (fun vs H Q E h => ?_) (fun cdv A outer s H vs Q E hr h => ?_)
  · obtain ⟨w, u, v, rfl, hu, bad, q⟩ := h
    rfl
  obtain ⟨w, u, v, rfl, hu, bad, q⟩ := h
  refine ⟨_, pss_cons (ps_set (i := 3) sc__law_refused.nd rfl (Or.inl rfl) pe_non)
    (pss_cons (ps_tryAs (i := 4) rfl rfl rfl sc__law_refused.nd rfl rfl rfl EO.m_kin (px_call d_by_parts hr (fun _ _ => (pa_cons (pcall d__law_kin hr (pa_cons (pv 0) pa_nil)) (pa_cons (pcall d__law_kin hr (pa_cons (pv 1) pa_nil)) (pa_cons (pv 2) pa_nil))))) (fun _ => (pss_one (ps_set (i := 3) sc__law_refused.nd rfl (Or.inl rfl) (pv 4)))))
    (pss_one (ps_ret (pe_cmpR (op_eq_list (hu0 hr)) (pcall d__law_classes hr (pa_cons (pv 3) pa_nil)) (pe_lst (pa_cons pe_str pa_nil)) (nomark _))))), ?_⟩
  refine ⟨_, rfl, w, rfl, by rcases bad with ⟨rfl, _⟩ | ⟨rfl, _⟩ <;> decide, fun x dx fs wd H1 s1 o0 o1 o2 fl => ?_⟩
  refine ⟨_, rfl, u, rfl, hu, fun y dy gs we H2 s2 p0 p1 p2 gl => ?_⟩
  have s12 := s1.trans s2
  refine ⟨_, rfl, x, dx, fs, wd, y, dy, gs, we, w, u, v, rfl, by rcases bad with ⟨rfl, _⟩ | ⟨rfl, _⟩ <;> decide, hu, ⟨fun e => s2 _ _ (o0 e), fun e => s2 _ _ (o1 e), fun e => s2 _ _ (o2 e)⟩, fl, ⟨p0, p1, p2⟩, gl, .inr ⟨?_, fun H3 s3 => ⟨EO.c_thing, fun e he => ⟨_, rfl, ?_⟩⟩⟩⟩
  · rcases bad with ⟨rfl, b⟩ | ⟨rfl, p, rs, e, hp, b⟩
    · exact .inl ⟨rfl, b⟩
    · exact .inr ⟨rfl, p, rs, e, s12 _ _ hp, b⟩
  refine ⟨_, rfl, e, er.thing, _, rfl, upd_same, .inr (.inr ⟨rfl, rfl⟩), fun p H' sm fp hp => ?_⟩
  exact eq_told hp fun H7 s7 => q _
theorem ok__law_whole {er : Errs} (EO : ErrOk K mg er) {ca : ClA} (CA : ClOk K mg ca) {f : Addr} {fd : FuncData} (F : Fun K "_law_whole" "_law_whole" s__law_whole f fd) (m_isinstance : mg "isinstance" = none) (m_int : mg "int" = none) (m_bool : mg "bool" = none) : FnOk P w K mg base CX0 1 f fd ["_law_found"] (sp__law_whole K ca) := by
  refine F.ok sc__law_whole (fun vs H Q E h => ?_) (fun cdv A outer s H vs Q E hr h => ?_)
  · obtain ⟨n, rfl, q⟩ := h
    rfl
  obtain ⟨n, rfl, q⟩ := h
  refine ⟨_, pss_one (ps_ret (pe_and (pe_callB call_isinst rfl m_isinstance bb_isinstance (pa_cons (pv 0) (pa_cons (pe_bltn (v := .ty "int") rfl m_int bb_int rfl) pa_nil))) (pe_one (pe_not (pe_callB call_isinst rfl m_isinstance bb_isinstance (pa_cons (pv 0) (pa_cons (pe_bltn (v := .ty "bool") rfl m_bool bb_bool rfl) pa_nil))))))), ?_⟩
  exact ⟨_, rfl, _, _, _, _, _, rfl, relTy, .int _, kit_int_int, _, rfl, iteT ⟨_, rfl, _, _, _, _, _, rfl, relTy, .int _, kit_int_bool, _, rfl, q⟩⟩
theorem ok__law_numbers {er : Errs} (EO : ErrOk K mg er) {ca : ClA} (CA : ClOk K mg ca) {f : Addr} {fd : FuncData} (F : Fun K "_law_numbers" "_law_numbers" s__law_numbers f fd) {f0 : Addr} {fd0 : FuncData} (d__law_whole : Def P w K mg base "_law_whole" ["_law_found"] 1 (sp__law_whole K ca) f0 fd0) (m_isinstance : mg "isinstance" = none) (m_list : mg "list" = none) (m_len : mg "len" = none) (m_range : mg "range" = none) : FnOk P w K mg base CX0 2 f fd ["_law_found", "_law_due"] (sp__law_numbers K ca) := by
  refine F.ok sc__law_numbers (fun vs H Q E h => ?_) (fun cdv A outer s H vs Q E hr h => ?_)
  · obtain ⟨p, r, ns, rfl, hp, hr2, hz, q⟩ := h
    rfl
  obtain ⟨p, r, ns, rfl, hp, hr2, hz, q⟩ := h
  refine ⟨_, pss_cons (ps_if (PW.pt (pw_or (pt_not (pt_val (pe_callB call_isinst rfl m_isinstance bb_isinstance (pa_cons (pv 0) (pa_cons (pe_bltn (v := .ty "list") rfl m_list bb_list rfl) pa_nil))))) (pw_or1 (pt_cmpR op_ne (pe_callB call_len_seq rfl m_len bb_len (pa_cons (pv 0) pa_nil)) (pe_callB call_len_seq rfl m_len bb_len (pa_cons (pv 1) pa_nil)) (nomark _))))) (pss_one (ps_ret pe_bl)) pss_nil)
    (pss_cons (ps_for PassesOwn.never rfl (pi_range1 rfl m_range (pa_cons (pe_callB call_len_seq rfl m_len bb_len (pa_cons (pv 1) pa_nil)) pa_nil)) (pg_name (i := 2) sc__law_numbers.nd rfl (Or.inl rfl)) (pss_one (ps_if (PW.pt (pw_or (pt_not (pt_val (pcall d__law_whole hr (pa_cons (pe_ix ix_list (pv 0) (pv 2) (fun _ _ => rfl)) pa_nil)))) (pw_or1 (pt_cmpR op_ne (pe_ix ix_list (pv 0) (pv 2) (fun _ _ => rfl)) (pe_ix ix_list (pv 1) (pv 2) (fun _ _ => rfl)) (nomark _))))) (pss_one (ps_ret pe_bl)) pss_nil)))
    (pss_one (ps_ret pe_bl))), ?_⟩
  have lm : (ns.map V.int).length = ns.length := List.length_map _
  refine ⟨_, rfl, _, _, _, _, _, rfl, relTy, .lst hp, kit_list_list, _, rfl, iteF ⟨_, rfl, p, _, rfl, .inl (SqL.of hp), _, rfl, r, _, rfl, .inl (SqL.of hr2), rfl, _, rfl, iteNS rfl ?_⟩⟩
  refine ⟨_, rfl, r, _, rfl, .inl (SqL.of hr2), _, rfl, by omega, by omega, for_range (lo := 0) (n := (((ns.map V.int).length : Nat) : Int).toNat) (fun i σ H' => H = H' ∧ ∃ o, σ = [some (.ref p), some (.ref r), o]) ⟨rfl, _, rfl⟩ ?_ ?_⟩
  · rintro i σ H' hi ⟨rfl, o, rfl⟩
    have at1 := atI_int (ns := ns) (i := (0 : Int) + (i : Int)) (by omega) (by omega)
    exact ⟨_, rfl, _, rfl, p, _, _, _, rfl, rfl, SqL.of hp, at1, _, rfl, _, rfl, iteF ⟨_, rfl, _, rfl, p, _, _, _, rfl, rfl, SqL.of hp, at1, _, rfl, _, rfl, r, _, _, _, rfl, rfl, SqL.of hr2, at1, rfl, _, rfl, iteNS rfl ⟨rfl, _, rfl⟩⟩⟩
  · rintro σ H' ⟨rfl, o, rfl⟩
    exact q
theorem ok__law_same_twins {er : Errs} (EO : ErrOk K mg er) {ca : ClA} (CA : ClOk K mg ca) {f : Addr} {fd : FuncData} (F : Fun K "_law_same_twins" "_law_same_twins" s__law_same_twins f fd) (m_isinstance : mg "isinstance" = none) (m_tuple : mg "tuple" = none) (m_len : mg "len" = none) (m_range : mg "range" = none) (n : Nat) (d_self : Def P w K mg base "_law_same_twins" ["_law_found", "_law_due"] (0 + n) (below n fun m => sp__law_same_twins K ca m) f fd) : FnOk P w K mg base (CX1 P w) (0 + n + 1) f fd ["_law_found", "_law_due"] (sp__law_same_twins K ca n) := by
  refine FnOk.up ?_
  refine F.ok sc__law_same_twins (fun vs H Q E h => ?_) (fun cdv A outer s H vs Q E hr h => ?_)
  · obtain ⟨v, u, t, rfl, tv, tu, hn, h40, q⟩ := h
    rfl
  obtain ⟨v, u, t, rfl, tv, tu, hn, h40, q⟩ := h
  refine ⟨_, pss_cons (ps_if (PW.pt (pw_or (pt_not (pt_val (pe_callB call_isinst rfl m_isinstance bb_isinstance (pa_cons (pv 0) (pa_cons (pe_bltn (v := .ty "tuple") rfl m_tuple bb_tuple rfl) pa_nil))))) (pw_or1 (pt_cmpR op_ne (pe_callB call_len_seq rfl m_len bb_len (pa_cons (pv 0) pa_nil)) (pe_callB call_len_seq rfl m_len bb_len (pa_cons (pv 1) pa_nil)) (nomark _))))) (pss_one (ps_ret pe_bl)) pss_nil)
    (pss_cons (ps_for PassesOwn.never rfl (pi_range1 rfl m_range (pa_cons (pe_callB call_len_seq rfl m_len bb_len (pa_cons (pv 1) pa_nil)) pa_nil)) (pg_name (i := 2) sc__law_same_twins.nd rfl (Or.inl rfl)) (pss_one (ps_if (pt_not (pt_val (pcall d_self hr (pa_cons (pe_ix ix_tup (pv 0) (pv 2) (fun _ _ => rfl)) (pa_cons (pe_ix ix_tup (pv 1) (pv 2) (fun _ _ => rfl)) pa_nil)) (hjk := by omega)))) (pss_one (ps_ret pe_bl)) pss_nil)))
    (pss_one (ps_ret pe_bl))), ?_⟩
  obtain ⟨p, xs, rfl, hp, txs⟩ := tv.kids
  obtain ⟨r, ys, rfl, hr2, tys⟩ := tu.kids
  have lx := txs.len
  have ly := tys.len
  have lk : (kids t).length ≤ 2 := by cases t <;> simp [kids]
  refine ⟨_, rfl, _, _, _, _, _, rfl, relTy, .tup hp, kit_tuple_tuple, _, rfl, iteF ⟨_, rfl, p, _, rfl, .inr (SqT.of hp), _, rfl, r, _, rfl, .inr (SqT.of hr2), rfl, _, rfl, iteNS (congrArg (fun k : Nat => V.int (k : Int)) (lx.trans ly.symm)) ?_⟩⟩
  refine ⟨_, rfl, r, _, rfl, .inr (SqT.of hr2), _, rfl, by omega, by omega, for_range (lo := 0) (n := ((ys.length : Nat) : Int).toNat) (fun i σ H' => H = H' ∧ ∃ o, σ = [some (.ref p), some (.ref r), o]) ⟨rfl, _, rfl⟩ ?_ ?_⟩
  · rintro i σ H' hi ⟨rfl, o, rfl⟩
    have hik : i < (kids t).length := by omega
    have eb : (kids t)[i]? = some (kids t)[i] := List.getElem?_eq_getElem hik
    have sb := kids_size (List.getElem_mem hik)
    obtain ⟨y1, e1, t1⟩ := txs.at eb
    obtain ⟨y2, e2, t2⟩ := tys.at eb
    generalize (kids t)[i] = b at sb t1 t2
    have at1 : atI xs ((0 : Int) + (i : Int)) = some y1 := by rw [Int.zero_add]; exact atI_nat e1
    have at2 : atI ys ((0 : Int) + (i : Int)) = some y2 := by rw [Int.zero_add]; exact atI_nat e2
    exact ⟨_, rfl, _, rfl, p, _, _, _, rfl, rfl, SqT.of hp, at1, _, rfl, _, rfl, r, _, _, _, rfl, rfl, SqT.of hr2, at2, b.size, by omega, y1, y2, b, rfl, t1, t2, rfl, by omega, _, rfl, iteF ⟨rfl, _, rfl⟩⟩
  · rintro σ H' ⟨rfl, o, rfl⟩
    exact q
theorem ok__law_same {er : Errs} (EO : ErrOk K mg er) {ca : ClA} (CA : ClOk K mg ca) {f : Addr} {fd : FuncData} (F : Fun K "_law_same" "_law_same" s__law_same f fd) {f0 : Addr} {fd0 : FuncData} (d__law_numbers : Def P w K mg base "_law_numbers" ["_law_found", "_law_due"] 2 (sp__law_numbers K ca) f0 fd0) {f1 : Addr} {fd1 : FuncData} (d__law_same_twins : Def P w K mg base "_law_same_twins" ["_law_found", "_law_due"] 42 (spA__law_same_twins K ca) f1 fd1) (m_isinstance : mg "isinstance" = none) (m_str : mg "str" = none) : FnOk P w K mg base CX0 43 f fd ["_law_way", "_law_found", "_law_due"] (sp__law_same K ca) := by
  refine F.ok sc__law_same (fun vs H Q E h => ?_) (fun cdv A outer s H vs Q E hr h => ?_)
  · obtain ⟨w, v, u, t, rfl, hw, tv, tu, h40, q⟩ := h
    rfl
  obtain ⟨w, v, u, t, rfl, hw, tv, tu, h40, q⟩ := h
  refine ⟨_, pss_cons (ps_if (pt_cmpR op_eq (pv 0) pe_int (nomark _)) (pss_one (ps_ret (pe_and (pe_callB call_isinst rfl m_isinstance bb_isinstance (pa_cons (pv 1) (pa_cons (pe_bltn (v := .ty "str") rfl m_str bb_str rfl) pa_nil))) (pe_one (pe_cmpR op_eq (pv 1) (pv 2) (nomark _)))))) pss_nil)
    (pss_cons (ps_if (pt_cmpR op_eq (pv 0) pe_int (nomark _)) (pss_one (ps_ret (pcall d__law_numbers hr (pa_cons (pv 1) (pa_cons (pv 2) pa_nil))))) pss_nil)
    (pss_one (ps_ret (pcall d__law_same_twins hr (pa_cons (pv 1) (pa_cons (pv 2) pa_nil)))))), ?_⟩
  rcases (by omega : w = 0 ∨ w = 1 ∨ w = 2) with rfl | rfl | rfl
  · obtain ⟨x, rfl, ex⟩ := tv
    obtain ⟨y, rfl, ey⟩ := tu
    have e : x = y := str_ext (ex.trans ey.symm)
    subst e
    have e1 : decide (V.str x = V.str x) = true := decide_eq_true rfl
    refine ⟨_, rfl, rfl, _, rfl, iteP rfl ⟨_, rfl, _, _, _, _, _, rfl, relTy, .str _, kit_str_str, _, rfl, iteT ⟨_, rfl, _, rfl, rfl, ?_⟩⟩⟩
    rw [e1]
    exact q
  · obtain ⟨p, rfl, ex⟩ := tv
    obtain ⟨r, rfl, ey⟩ := tu
    exact ⟨_, rfl, rfl, _, rfl, iteN (by decide) ⟨_, rfl, rfl, _, rfl, iteP rfl ⟨_, rfl, _, rfl, p, r, stT t, rfl, ex, ey, by rw [stT_len]; omega, q⟩⟩⟩
  · exact ⟨_, rfl, rfl, _, rfl, iteN (by decide) ⟨_, rfl, rfl, _, rfl, iteN (by decide) ⟨_, rfl, _, rfl, t.size, by omega, v, u, t, rfl, tv, tu, rfl, h40, q⟩⟩⟩
theorem ok_law {er : Errs} (EO : ErrOk K mg er) {ca : ClA} (CA : ClOk K mg ca) {f : Addr} {fd : FuncData} (F : Fun K "law" "law" s_law f fd) {f0 : Addr} {fd0 : FuncData} (d__law_cell_at : Def P w K mg base "_law_cell_at" ["_law_script", "_law_k"] 1 (sp__law_cell_at K ca) f0 fd0) {f1 : Addr} {fd1 : FuncData} (d__law_text_by : Def P w K mg base "_law_text_by" ["_law_script", "_law_size", "_law_turn"] 3 (sp__law_text_by K ca) f1 fd1) {f2 : Addr} {fd2 : FuncData} (d__law_spoiled_text : Def P w K mg base "_law_spoiled_text" ["_law_text", "_law_cell"] 2 (sp__law_spoiled_text K ca) f2 fd2) {f3 : Addr} {fd3 : FuncData} (d__law_spoiled_row : Def P w K mg base "_law_spoiled_row" ["_law_row", "_law_cell", "_law_far"] 2 (sp__law_spoiled_row K ca) f3 fd3) {f4 : Addr} {fd4 : FuncData} (d__law_thing : Def P w K mg base "_law_thing" ["_law_way", "_law_text"] 2 (sp__law_thing K ca) f4 fd4) {f5 : Addr} {fd5 : FuncData} (d__law_closes : Def P w K mg base "_law_closes" ["_law_text"] 1 (sp__law_closes K ca) f5 fd5) {f6 : Addr} {fd6 : FuncData} (d__law_is_stairs : Def P w K mg base "_law_is_stairs" ["_law_row"] 1 (sp__law_is_stairs K ca) f6 fd6) {f7 : Addr} {fd7 : FuncData} (d__law_refused : Def P w K mg base "_law_refused" ["_law_way", "_law_other", "_law_thing_here"] 46 (sp__law_refused K ca er) f7 fd7) {f8 : Addr} {fd8 : FuncData} (d_by_parts : Def P w K mg base "by_parts" ["one", "other", "thing"] 45 (sp_by_parts K ca er) f8 fd8) {f9 : Addr} {fd9 : FuncData} (d__law_kin : Def P w K mg base "_law_kin" ["_law_way"] 7 (sp__law_kin K ca) f9 fd9) {f10 : Addr} {fd10 : FuncData} (d__law_same : Def P w K mg base "_law_same" ["_law_way", "_law_found", "_law_due"] 43 (sp__law_same K ca) f10 fd10) (m_len : mg "len" = none) : FnOk P w K mg base CX0 47 f fd ["_law_script"] (sp_law K ca er) := by
  refine F.ok sc_law (fun vs H Q E h => ?_) (fun cdv A outer s H vs Q E hr h => ?_)
  · obtain ⟨a, ns, rfl, hS, h63, q⟩ := h
    rfl
  obtain ⟨a, ns, rfl, hS, h63, q⟩ := h
  refine ⟨_, pss_cons (ps_set (i := 1) sc_law.nd rfl (Or.inl rfl) (pe_op op_mod (pcall d__law_cell_at hr (pa_cons (pv 0) (pa_cons pe_int pa_nil))) pe_int))
    (pss_cons (ps_set (i := 2) sc_law.nd rfl (Or.inl rfl) (pe_op op_mod (pcall d__law_cell_at hr (pa_cons (pv 0) (pa_cons pe_int pa_nil))) pe_int))
    (pss_cons (ps_set (i := 3) sc_law.nd rfl (Or.inl rfl) (pcall d__law_text_by hr (pa_cons (pv 0) (pa_cons (pe_op op_mod (pcall d__law_cell_at hr (pa_cons (pv 0) (pa_cons pe_int pa_nil))) pe_int) (pa_cons pe_int pa_nil)))))
    (pss_cut (ps_if (PW.pt (pw_and (pt_cmpR op_eq (pe_op op_mod (pcall d__law_cell_at hr (pa_cons (pv 0) (pa_cons pe_int pa_nil))) pe_int) pe_int (nomark _)) (pw_and (pt_cmpR op_lt pe_int (pe_callB call_len_str rfl m_len bb_len (pa_cons (pv 3) pa_nil)) (nomark _)) (pw_and (pt_cmpR op_lt (pe_callB call_len_str rfl m_len bb_len (pa_cons (pv 3) pa_nil)) pe_int (nomark _)) (pw_and1 (pt_cmpR op_lt (pv 1) pe_int (nomark _))))))) (pss_cons (ps_set (i := 4) sc_law.nd rfl (Or.inl rfl) (pcall d__law_spoiled_text hr (pa_cons (pv 3) (pa_cons (pcall d__law_cell_at hr (pa_cons (pv 0) (pa_cons pe_int pa_nil))) pa_nil))))
    (pss_cons (ps_if (pt_cmpR op_eq (pv 1) pe_int (nomark _)) (pss_one (ps_set (i := 4) sc_law.nd rfl (Or.inl rfl) (pcall d__law_spoiled_row hr (pa_cons (pcall d__law_thing hr (pa_cons pe_int (pa_cons (pv 3) pa_nil))) (pa_cons (pcall d__law_cell_at hr (pa_cons (pv 0) (pa_cons pe_int pa_nil))) (pa_cons (pcall d__law_cell_at hr (pa_cons (pv 0) (pa_cons pe_int pa_nil))) pa_nil)))))) pss_nil)
    (pss_one (ps_if (PW.pt (pw_or (PW.pt (pw_and (pt_cmpR op_eq (pv 1) pe_int (nomark _)) (pw_and1 (pt_not (pt_val (pcall d__law_closes hr (pa_cons (pv 4) pa_nil))))))) (pw_or1 (PW.pt (pw_and (pt_cmpR op_eq (pv 1) pe_int (nomark _)) (pw_and1 (pt_not (pt_val (pcall d__law_is_stairs hr (pa_cons (pv 4) pa_nil)))))))))) (pss_one (ps_ret (pcall d__law_refused hr (pa_cons (pv 1) (pa_cons (pv 2) (pa_cons (pv 4) pa_nil)))))) pss_nil)))) pss_nil)
    (pss_cons (ps_set (i := 5) sc_law.nd rfl (Or.inl rfl) (pcall d__law_thing hr (pa_cons (pv 1) (pa_cons (pv 3) pa_nil))))
    (pss_cons (ps_set (i := 6) sc_law.nd rfl (Or.inl rfl) (pcall d_by_parts hr (pa_cons (pcall d__law_kin hr (pa_cons (pv 1) pa_nil)) (pa_cons (pcall d__law_kin hr (pa_cons (pv 2) pa_nil)) (pa_cons (pv 5) pa_nil)))))
    (pss_cons (ps_if (pt_not (pt_val (pcall d__law_same hr (pa_cons (pv 2) (pa_cons (pv 6) (pa_cons (pcall d__law_thing hr (pa_cons (pv 2) (pa_cons (pv 3) pa_nil))) pa_nil)))))) (pss_one (ps_ret pe_bl)) pss_nil)
    (pss_cons (ps_if (pt_cmpR op_eq (pv 2) pe_int (nomark _)) (pss_one (ps_expr (pe_bm PySem.F.plainAttrs_list PySem.F.slot_list_append PySem.F.type_list_append mt_append (pv 6) (pa_cons pe_int pa_nil)))) pss_nil)
    (pss_one (ps_ret (pcall d__law_same hr (pa_cons (pv 1) (pa_cons (pv 5) (pa_cons (pcall d__law_thing hr (pa_cons (pv 1) (pa_cons (pv 3) pa_nil))) pa_nil))))))))))))), ?_⟩
  have w0 := Int.emod_nonneg (ns.getD (0 : Int).toNat 0) (show (3 : Int) ≠ 0 by decide)
  have w3 := Int.emod_lt_of_pos (ns.getD (0 : Int).toNat 0) (show (0 : Int) < 3 by decide)
  have u0 := Int.emod_nonneg (ns.getD (1 : Int).toNat 0) (show (3 : Int) ≠ 0 by decide)
  have u3 := Int.emod_lt_of_pos (ns.getD (1 : Int).toNat 0) (show (0 : Int) < 3 by decide)
  have z0 := Int.emod_nonneg (ns.getD (2 : Int).toNat 0) (show (41 : Int) ≠ 0 by decide)
  have z1 := Int.emod_lt_of_pos (ns.getD (2 : Int).toNat 0) (show (0 : Int) < 41 by decide)
  refine ⟨_, rfl, a, ns, 0, rfl, hS, by decide, _, _, rfl, rfl, pm (by decide), ?_⟩
  refine ⟨_, rfl, a, ns, 1, rfl, hS, by decide, _, _, rfl, rfl, pm (by decide), ?_⟩
  refine ⟨_, rfl, _, rfl, a, ns, 2, rfl, hS, by decide, _, _, rfl, rfl, pm (by decide), ?_⟩
  try dsimp only
  obtain ⟨w, ew⟩ : ∃ w : Nat, ns.getD (0 : Int).toNat 0 % 3 = (w : Int) := ⟨(ns.getD (0 : Int).toNat 0 % 3).toNat, by omega⟩
  obtain ⟨u, eu⟩ : ∃ u : Nat, ns.getD (1 : Int).toNat 0 % 3 = (u : Int) := ⟨(ns.getD (1 : Int).toNat 0 % 3).toNat, by omega⟩
  rw [ew] at w3 ⊢
  rw [eu] at u3 ⊢
  have hw : w ≤ 2 := by omega
  have hu : u ≤ 2 := by omega
  clear ew eu w0 u0
  refine ⟨a, ns, _, 3, rfl, hS, h63, z0, by omega, by decide, by decide, fun y H1 s1 cy ly => ?_⟩
  obtain ⟨t, ht⟩ := brk_all y.cps.toList.length y.cps.toList (Nat.le_refl _) cy
  have lt : y.length = 2 * t.size := by rw [← cps_len, ← ht, brk_len]
  have h40 : t.size ≤ 40 := by omega
  have lz : y.length ≤ sizeLine := sz (by omega)
  refine ⟨fun σ H' => ∃ (o1 o2 o3 : Option V), σ = [some (.ref a), some (.int (w : Int)), some (.int (u : Int)), some (.str y), o1, o2, o3] ∧ Same H1 H', ?_, ?_⟩
  · refine ⟨_, rfl, a, ns, 3, rfl, s1.seq hS, by decide, _, _, rfl, rfl, pm (by decide), rfl, _, rfl, ite2 (fun _ => ?_) (fun _ => iteF ⟨_, _, _, rfl, Same.refl H1⟩)⟩
    refine ⟨_, rfl, y, rfl, lz, _, _, rfl, rfl, _, rfl, ite2 (fun c1 => ?_) (fun _ => iteF ⟨_, _, _, rfl, Same.refl H1⟩)⟩
    have c1 : (0 : Int) < ((y.length : Nat) : Int) := of_decide_eq_true c1
    refine ⟨_, rfl, y, rfl, lz, _, _, rfl, rfl, _, rfl, ite2 (fun c2 => ?_) (fun _ => iteF ⟨_, _, _, rfl, Same.refl H1⟩)⟩
    refine ⟨_, rfl, _, _, rfl, rfl, _, rfl, ?_⟩
    by_cases h2 : (w : Int) < 2
    · refine iteP h2 ⟨_, rfl, _, rfl, a, ns, 4, rfl, s1.seq hS, by decide, y, _, rfl, by omega, by omega, fun x2 H2 s2 => ?_⟩
      rcases (by omega : w = 0 ∨ w = 1) with rfl | rfl
      · refine ⟨_, rfl, rfl, _, rfl, iteN (by decide) ⟨_, rfl, rfl, _, rfl, iteP rfl ⟨_, rfl, x2, rfl, _, rfl, ?_⟩⟩⟩
        cases hb : clo 0 x2.cps.toList with
        | false => exact iteT (iteT ⟨_, rfl, _, rfl, _, rfl, 0, u, .str x2, rfl, hu, .inl ⟨rfl, x2, rfl, hb⟩, q⟩)
        | true => exact iteF ⟨_, rfl, rfl, _, rfl, iteN (by decide) (iteF ⟨_, _, _, rfl, s2⟩)⟩
      · refine ⟨_, rfl, rfl, _, rfl, iteP rfl ⟨_, rfl, 1, y, t, rfl, by decide, ht.symm, h40, fun v H3 s3 tv => ?_⟩⟩
        obtain ⟨p, rfl, hp⟩ := tv
        have s13 := (s1.trans s2).trans s3
        refine ⟨_, rfl, a, ns, 4, rfl, s13.seq hS, by decide, _, rfl, a, ns, 5, rfl, s13.seq hS, by decide, p, stT t, _, _, rfl, hp, by rw [stT_len]; omega, by rw [stT_len]; omega, fun r ms H4 s4 hr lms => ?_⟩
        have s24 := (s2.trans s3).trans s4
        refine ⟨_, rfl, rfl, _, rfl, iteN (by decide) (iteF ⟨_, rfl, rfl, _, rfl, iteP rfl ⟨_, rfl, r, ms, rfl, SqL.of hr, lms, _, rfl, ?_⟩⟩)⟩
        cases hb : stF 0 0 ms with
        | false => exact iteT ⟨_, rfl, _, rfl, _, rfl, 1, u, .ref r, rfl, hu, .inr ⟨rfl, r, ms, rfl, hr, hb⟩, q⟩
        | true => exact iteF ⟨_, _, _, rfl, s24⟩
    · exact iteN h2 ⟨_, _, _, rfl, Same.refl H1⟩
  rintro σ H5 ⟨o1, o2, o3, rfl, s5⟩
  have hT : ∀ (k : Nat) (Hk : Hp), k ≤ 2 → True := fun _ _ _ => trivial
  refine ⟨_, rfl, _, rfl, w, y, t, rfl, hw, ht.symm, h40, fun v H6 s6 tv => ?_⟩
  refine ⟨_, rfl, w, rfl, hw, fun x dx fs wd H7 s7 k0 k1 k2 fl => ⟨_, rfl, u, rfl, hu, fun x' dx' gs we H8 s8 p0 p1 p2 gl => ?_⟩⟩
  have s78 := s7.trans s8
  refine ⟨_, rfl, x, dx, fs, wd, x', dx', gs, we, w, u, v, rfl, hw, hu, ⟨fun e => s8 _ _ (k0 e), fun e => s8 _ _ (k1 e), fun e => s8 _ _ (k2 e)⟩, fl, ⟨p0, p1, p2⟩, gl, .inl ⟨t, tv.same s78, h40, fun g H9 s9 nw tg => ?_⟩⟩
  have tv9 := tv.same (s78.trans s9)
  refine ⟨_, rfl, _, rfl, _, rfl, _, rfl, u, y, t, rfl, hu, ht.symm, h40, fun v2 HA sA tv2 => ⟨u, g, v2, t, rfl, hu, tg.same sA, tv2, h40, _, rfl, iteF ?_⟩⟩
  have tvA := tv9.same sA
  refine ⟨_, rfl, rfl, _, rfl, ?_⟩
  by_cases h1 : u = 1
  · subst h1
    obtain ⟨pg, rfl, hg⟩ := tg
    have hgA := sA _ _ hg
    have ne : v ≠ .ref pg := fun e => Th.old (w := w) (t := t) (tv.same s78) e (nw pg rfl)
    refine iteP rfl ⟨_, rfl, .inl ⟨rfl, _, SqL.of hgA⟩, pg, _, _, rfl, rfl, hgA, by rw [List.length_map, stT_len]; exact sz' (by omega), ?_⟩
    exact ⟨_, rfl, _, rfl, _, rfl, _, rfl, w, y, t, rfl, hw, ht.symm, h40, fun v3 HB sB tv3 => ⟨w, v, v3, t, rfl, hw, Th.same (w := w) (t := t) (Th.put (w := w) (t := t) tvA hgA ne) sB, tv3, h40, q _⟩⟩
  · refine iteN (fun z => h1 (by injection z with z; omega)) ?_
    exact ⟨_, rfl, _, rfl, _, rfl, _, rfl, w, y, t, rfl, hw, ht.symm, h40, fun v3 HB sB tv3 => ⟨w, v, v3, t, rfl, hw, tvA.same sB, tv3, h40, q _⟩⟩
end
noncomputable def spL (K : PySem.W.Frag) : Sp := fun vs H Q _ => ∃ (a : Addr) (ns : List Int), vs = [.ref a] ∧ SqL K H a (ns.map V.int) ∧ ns.length ≤ 63 ∧ ∀ H', Q (.bl true) H'
theorem lenAll1 {P : List Value → Prop} (h : ∀ a0 : Value, P [a0]) : ∀ us : List Value, us.length = 1 → P us
  | [a0], _ => h a0
theorem lenAll2 {P : List Value → Prop} (h : ∀ a0 a1 : Value, P [a0, a1]) : ∀ us : List Value, us.length = 2 → P us
  | [a0, a1], _ => h a0 a1
theorem lenAll3 {P : List Value → Prop} (h : ∀ a0 a1 a2 : Value, P [a0, a1, a2]) : ∀ us : List Value, us.length = 3 → P us
  | [a0, a1, a2], _ => h a0 a1 a2
theorem all_mk {l : PySem.W.OpenLaw} {w : World} {K : PySem.W.Frag} {h : Heap} {mg : Str → Option Value} {fa : Addr} (X : K.In h) (G : h.Ns mainGlobals mg) (hfa : mg "law" = some (.ref fa)) {C_Brackets : Addr} {C_Stairs : Addr} {C_Twins : Addr} {C_SplitFamily : Addr} {C_Family : Addr}
    {f1 : Addr} {od1 an1 : Option Addr} {sl1 : Array (Option Value)} {oc1 kV1 dc1 pm1 cd1 ct1 : Value}
    {f2 : Addr} {od2 an2 : Option Addr} {sl2 : Array (Option Value)} {oc2 kV2 dc2 pm2 cd2 ct2 : Value}
    {f3 : Addr} {od3 an3 : Option Addr} {sl3 : Array (Option Value)} {oc3 kV3 dc3 pm3 cd3 ct3 : Value}
    {f4 : Addr} {od4 an4 : Option Addr} {sl4 : Array (Option Value)} {oc4 kV4 dc4 pm4 cd4 ct4 : Value}
    {f5 : Addr} {od5 an5 : Option Addr} {sl5 : Array (Option Value)} {oc5 kV5 dc5 pm5 cd5 ct5 : Value}
    {f6 : Addr} {od6 an6 : Option Addr} {sl6 : Array (Option Value)} {oc6 kV6 dc6 pm6 cd6 ct6 : Value}
    {f7 : Addr} {od7 an7 : Option Addr} {sl7 : Array (Option Value)} {oc7 kV7 dc7 pm7 cd7 ct7 : Value}
    {f8 : Addr} {od8 an8 : Option Addr} {sl8 : Array (Option Value)} {oc8 kV8 dc8 pm8 cd8 ct8 : Value}
    {f9 : Addr} {od9 an9 : Option Addr} {sl9 : Array (Option Value)} {oc9 kV9 dc9 pm9 cd9 ct9 : Value}
    {f10 : Addr} {od10 an10 : Option Addr} {sl10 : Array (Option Value)} {oc10 kV10 dc10 pm10 cd10 ct10 : Value}
    {f11 : Addr} {od11 an11 : Option Addr} {sl11 : Array (Option Value)} {oc11 kV11 dc11 pm11 cd11 ct11 : Value}
    {f12 : Addr} {od12 an12 : Option Addr} {sl12 : Array (Option Value)} {oc12 kV12 dc12 pm12 cd12 ct12 : Value}
    {f13 : Addr} {od13 an13 : Option Addr} {sl13 : Array (Option Value)} {oc13 kV13 dc13 pm13 cd13 ct13 : Value}
    {f14 : Addr} {od14 an14 : Option Addr} {sl14 : Array (Option Value)} {oc14 kV14 dc14 pm14 cd14 ct14 : Value}
    {f15 : Addr} {od15 an15 : Option Addr} {sl15 : Array (Option Value)} {oc15 kV15 dc15 pm15 cd15 ct15 : Value}
    {f16 : Addr} {od16 an16 : Option Addr} {sl16 : Array (Option Value)} {oc16 kV16 dc16 pm16 cd16 ct16 : Value}
    {f17 : Addr} {od17 an17 : Option Addr} {sl17 : Array (Option Value)} {oc17 kV17 dc17 pm17 cd17 ct17 : Value}
    {f18 : Addr} {od18 an18 : Option Addr} {sl18 : Array (Option Value)} {oc18 kV18 dc18 pm18 cd18 ct18 : Value}
    {f19 : Addr} {od19 an19 : Option Addr} {sl19 : Array (Option Value)} {oc19 kV19 dc19 pm19 cd19 ct19 : Value}
    {f20 : Addr} {od20 an20 : Option Addr} {sl20 : Array (Option Value)} {oc20 kV20 dc20 pm20 cd20 ct20 : Value}
    {f21 : Addr} {od21 an21 : Option Addr} {sl21 : Array (Option Value)} {oc21 kV21 dc21 pm21 cd21 ct21 : Value}
    {f22 : Addr} {od22 an22 : Option Addr} {sl22 : Array (Option Value)} {oc22 kV22 dc22 pm22 cd22 ct22 : Value}
    {f23 : Addr} {od23 an23 : Option Addr} {sl23 : Array (Option Value)} {oc23 kV23 dc23 pm23 cd23 ct23 : Value}
    {f24 : Addr} {od24 an24 : Option Addr} {sl24 : Array (Option Value)} {oc24 kV24 dc24 pm24 cd24 ct24 : Value}
    {f25 : Addr} {od25 an25 : Option Addr} {sl25 : Array (Option Value)} {oc25 kV25 dc25 pm25 cd25 ct25 : Value}
    {f26 : Addr} {od26 an26 : Option Addr} {sl26 : Array (Option Value)} {oc26 kV26 dc26 pm26 cd26 ct26 : Value}
    {f27 : Addr} {od27 an27 : Option Addr} {sl27 : Array (Option Value)} {oc27 kV27 dc27 pm27 cd27 ct27 : Value}
    {f28 : Addr} {od28 an28 : Option Addr} {sl28 : Array (Option Value)} {oc28 kV28 dc28 pm28 cd28 ct28 : Value}
    {f29 : Addr} {od29 an29 : Option Addr} {sl29 : Array (Option Value)} {oc29 kV29 dc29 pm29 cd29 ct29 : Value}
    {f30 : Addr} {od30 an30 : Option Addr} {sl30 : Array (Option Value)} {oc30 kV30 dc30 pm30 cd30 ct30 : Value}
    {f31 : Addr} {od31 an31 : Option Addr} {sl31 : Array (Option Value)} {oc31 kV31 dc31 pm31 cd31 ct31 : Value}
    {f32 : Addr} {od32 an32 : Option Addr} {sl32 : Array (Option Value)} {oc32 kV32 dc32 pm32 cd32 ct32 : Value}
    {f33 : Addr} {od33 an33 : Option Addr} {sl33 : Array (Option Value)} {oc33 kV33 dc33 pm33 cd33 ct33 : Value}
    {f34 : Addr} {od34 an34 : Option Addr} {sl34 : Array (Option Value)} {oc34 kV34 dc34 pm34 cd34 ct34 : Value}
    {f35 : Addr} {od35 an35 : Option Addr} {sl35 : Array (Option Value)} {oc35 kV35 dc35 pm35 cd35 ct35 : Value}
    {f36 : Addr} {od36 an36 : Option Addr} {sl36 : Array (Option Value)} {oc36 kV36 dc36 pm36 cd36 ct36 : Value}
    {f37 : Addr} {od37 an37 : Option Addr} {sl37 : Array (Option Value)} {oc37 kV37 dc37 pm37 cd37 ct37 : Value}
    {f38 : Addr} {od38 an38 : Option Addr} {sl38 : Array (Option Value)} {oc38 kV38 dc38 pm38 cd38 ct38 : Value}
    {f39 : Addr} {od39 an39 : Option Addr} {sl39 : Array (Option Value)} {oc39 kV39 dc39 pm39 cd39 ct39 : Value}
    {f40 : Addr} {od40 an40 : Option Addr} {sl40 : Array (Option Value)} {oc40 kV40 dc40 pm40 cd40 ct40 : Value}
    {f41 : Addr} {od41 an41 : Option Addr} {sl41 : Array (Option Value)} {oc41 kV41 dc41 pm41 cd41 ct41 : Value}
    {f42 : Addr} {od42 an42 : Option Addr} {sl42 : Array (Option Value)} {oc42 kV42 dc42 pm42 cd42 ct42 : Value}
    {f43 : Addr} {od43 an43 : Option Addr} {sl43 : Array (Option Value)} {oc43 kV43 dc43 pm43 cd43 ct43 : Value}
    {f44 : Addr} {od44 an44 : Option Addr} {sl44 : Array (Option Value)} {oc44 kV44 dc44 pm44 cd44 ct44 : Value}
    {f45 : Addr} {od45 an45 : Option Addr} {sl45 : Array (Option Value)} {oc45 kV45 dc45 pm45 cd45 ct45 : Value}
    {f46 : Addr} {od46 an46 : Option Addr} {sl46 : Array (Option Value)} {oc46 kV46 dc46 pm46 cd46 ct46 : Value}
    {f47 : Addr} {od47 an47 : Option Addr} {sl47 : Array (Option Value)} {oc47 kV47 dc47 pm47 cd47 ct47 : Value}
    {f48 : Addr} {od48 an48 : Option Addr} {sl48 : Array (Option Value)} {oc48 kV48 dc48 pm48 cd48 ct48 : Value}
    {f49 : Addr} {od49 an49 : Option Addr} {sl49 : Array (Option Value)} {oc49 kV49 dc49 pm49 cd49 ct49 : Value}
    {f50 : Addr} {od50 an50 : Option Addr} {sl50 : Array (Option Value)} {oc50 kV50 dc50 pm50 cd50 ct50 : Value}
    {f51 : Addr} {od51 an51 : Option Addr} {sl51 : Array (Option Value)} {oc51 kV51 dc51 pm51 cd51 ct51 : Value}
    (nc_Brackets : PySem.W.nsIn K mainGlobals "Brackets" = some (some (.ref C_Brackets)))
    (nc_Stairs : PySem.W.nsIn K mainGlobals "Stairs" = some (some (.ref C_Stairs)))
    (nc_Twins : PySem.W.nsIn K mainGlobals "Twins" = some (some (.ref C_Twins)))
    (nc_SplitFamily : PySem.W.nsIn K mainGlobals "SplitFamily" = some (some (.ref C_SplitFamily)))
    (nc_Family : PySem.W.nsIn K mainGlobals "Family" = some (some (.ref C_Family)))
    (a_Brackets_refuse_other : PySem.W.findIn K (.ref C_Brackets) "refuse_other" = some (some (.ref f13)))
    (a_Stairs_refuse_other : PySem.W.findIn K (.ref C_Stairs) "refuse_other" = some (some (.ref f15)))
    (a_Twins_refuse_other : PySem.W.findIn K (.ref C_Twins) "refuse_other" = some (some (.ref f17)))
    (a_Brackets_is_one : PySem.W.findIn K (.ref C_Brackets) "is_one" = some (some (.ref f12)))
    (a_Stairs_is_one : PySem.W.findIn K (.ref C_Stairs) "is_one" = some (some (.ref f14)))
    (a_Twins_is_one : PySem.W.findIn K (.ref C_Twins) "is_one" = some (some (.ref f16)))
    (a_Brackets_size_of : PySem.W.findIn K (.ref C_Brackets) "size_of" = some (some (.ref f18)))
    (a_Stairs_size_of : PySem.W.findIn K (.ref C_Stairs) "size_of" = some (some (.ref f19)))
    (a_Twins_size_of : PySem.W.findIn K (.ref C_Twins) "size_of" = some (some (.ref f20)))
    (a_Brackets_bare : PySem.W.findIn K (.ref C_Brackets) "bare" = some (some (.ref f21)))
    (a_Stairs_bare : PySem.W.findIn K (.ref C_Stairs) "bare" = some (some (.ref f22)))
    (a_Twins_bare : PySem.W.findIn K (.ref C_Twins) "bare" = some (some (.ref f23)))
    (a_Brackets_parted : PySem.W.findIn K (.ref C_Brackets) "parted" = some (some (.ref f25)))
    (a_Stairs_parted : PySem.W.findIn K (.ref C_Stairs) "parted" = some (some (.ref f28)))
    (a_Twins_parted : PySem.W.findIn K (.ref C_Twins) "parted" = some (some (.ref f29)))
    (a_Brackets_joined : PySem.W.findIn K (.ref C_Brackets) "joined" = some (some (.ref f30)))
    (a_Stairs_joined : PySem.W.findIn K (.ref C_Stairs) "joined" = some (some (.ref f31)))
    (a_Twins_joined : PySem.W.findIn K (.ref C_Twins) "joined" = some (some (.ref f32)))
    (ai_Brackets : PySem.W.findIn K (.ref C_Brackets) "__init__" = some (some (.ref f37)))
    (ai_Stairs : PySem.W.findIn K (.ref C_Stairs) "__init__" = some (some (.ref f40)))
    (ai_Twins : PySem.W.findIn K (.ref C_Twins) "__init__" = some (some (.ref f43)))
    (ch_SplitFamily___init___Brackets : PySem.W.findCls K (.ref C_SplitFamily) (.type "type") "__init__" = some (.val (.ref f36)))
    (cg_SplitFamily___init___Brackets : PySem.W.specialIn K (.ref C_SplitFamily) "__getattribute__" = some (some (.builtin "type.__getattribute__")))
    (cr_SplitFamily___init___Brackets : PySem.W.readsIn K C_SplitFamily (.type "type") = true)
    (ch_Family___init___Brackets : PySem.W.findCls K (.ref C_Family) (.type "type") "__init__" = some (.val (.ref f35)))
    (cg_Family___init___Brackets : PySem.W.specialIn K (.ref C_Family) "__getattribute__" = some (some (.builtin "type.__getattribute__")))
    (cr_Family___init___Brackets : PySem.W.readsIn K C_Family (.type "type") = true)
    (ch_SplitFamily___init___Stairs : PySem.W.findCls K (.ref C_SplitFamily) (.type "type") "__init__" = some (.val (.ref f39)))
    (cg_SplitFamily___init___Stairs : PySem.W.specialIn K (.ref C_SplitFamily) "__getattribute__" = some (some (.builtin "type.__getattribute__")))
    (cr_SplitFamily___init___Stairs : PySem.W.readsIn K C_SplitFamily (.type "type") = true)
    (ch_Family___init___Stairs : PySem.W.findCls K (.ref C_Family) (.type "type") "__init__" = some (.val (.ref f38)))
    (cg_Family___init___Stairs : PySem.W.specialIn K (.ref C_Family) "__getattribute__" = some (some (.builtin "type.__getattribute__")))
    (cr_Family___init___Stairs : PySem.W.readsIn K C_Family (.type "type") = true)
    (ch_SplitFamily___init___Twins : PySem.W.findCls K (.ref C_SplitFamily) (.type "type") "__init__" = some (.val (.ref f42)))
    (cg_SplitFamily___init___Twins : PySem.W.specialIn K (.ref C_SplitFamily) "__getattribute__" = some (some (.builtin "type.__getattribute__")))
    (cr_SplitFamily___init___Twins : PySem.W.readsIn K C_SplitFamily (.type "type") = true)
    (ch_Family___init___Twins : PySem.W.findCls K (.ref C_Family) (.type "type") "__init__" = some (.val (.ref f41)))
    (cg_Family___init___Twins : PySem.W.specialIn K (.ref C_Family) "__getattribute__" = some (some (.builtin "type.__getattribute__")))
    (cr_Family___init___Twins : PySem.W.readsIn K C_Family (.type "type") = true)
    (a1 : PySem.W.nsIn K mainGlobals "_law_cell_at" = some (some (.ref f1)))
    (l1 : K.lookup f1 = some ⟨oc1, od1, .func (PySem.W.fnOf "_law_cell_at" "_law_cell_at" (defArgs s__law_cell_at) (defBody s__law_cell_at) (defScope s__law_cell_at) .none kV1 dc1 pm1 an1 cd1 ct1), sl1⟩)
    (c1 : PySem.W.codeIn K cd1 "_law_cell_at" = true)
    (k1 : PySem.W.keepIn K (.ref f1) = true)
    (a2 : PySem.W.nsIn K mainGlobals "_law_mix" = some (some (.ref f2)))
    (l2 : K.lookup f2 = some ⟨oc2, od2, .func (PySem.W.fnOf "_law_mix" "_law_mix" (defArgs s__law_mix) (defBody s__law_mix) (defScope s__law_mix) .none kV2 dc2 pm2 an2 cd2 ct2), sl2⟩)
    (c2 : PySem.W.codeIn K cd2 "_law_mix" = true)
    (k2 : PySem.W.keepIn K (.ref f2) = true)
    (a3 : PySem.W.nsIn K mainGlobals "_law_draws" = some (some (.ref f3)))
    (l3 : K.lookup f3 = some ⟨oc3, od3, .func (PySem.W.fnOf "_law_draws" "_law_draws" (defArgs s__law_draws) (defBody s__law_draws) (defScope s__law_draws) .none kV3 dc3 pm3 an3 cd3 ct3), sl3⟩)
    (c3 : PySem.W.codeIn K cd3 "_law_draws" = true)
    (k3 : PySem.W.keepIn K (.ref f3) = true)
    (a4 : PySem.W.nsIn K mainGlobals "_law_text_by" = some (some (.ref f4)))
    (l4 : K.lookup f4 = some ⟨oc4, od4, .func (PySem.W.fnOf "_law_text_by" "_law_text_by" (defArgs s__law_text_by) (defBody s__law_text_by) (defScope s__law_text_by) .none kV4 dc4 pm4 an4 cd4 ct4), sl4⟩)
    (c4 : PySem.W.codeIn K cd4 "_law_text_by" = true)
    (k4 : PySem.W.keepIn K (.ref f4) = true)
    (a5 : PySem.W.nsIn K mainGlobals "_law_spoiled_text" = some (some (.ref f5)))
    (l5 : K.lookup f5 = some ⟨oc5, od5, .func (PySem.W.fnOf "_law_spoiled_text" "_law_spoiled_text" (defArgs s__law_spoiled_text) (defBody s__law_spoiled_text) (defScope s__law_spoiled_text) .none kV5 dc5 pm5 an5 cd5 ct5), sl5⟩)
    (c5 : PySem.W.codeIn K cd5 "_law_spoiled_text" = true)
    (k5 : PySem.W.keepIn K (.ref f5) = true)
    (a6 : PySem.W.nsIn K mainGlobals "_law_spoiled_row" = some (some (.ref f6)))
    (l6 : K.lookup f6 = some ⟨oc6, od6, .func (PySem.W.fnOf "_law_spoiled_row" "_law_spoiled_row" (defArgs s__law_spoiled_row) (defBody s__law_spoiled_row) (defScope s__law_spoiled_row) .none kV6 dc6 pm6 an6 cd6 ct6), sl6⟩)
    (c6 : PySem.W.codeIn K cd6 "_law_spoiled_row" = true)
    (k6 : PySem.W.keepIn K (.ref f6) = true)
    (a7 : PySem.W.nsIn K mainGlobals "_law_twins_by" = some (some (.ref f7)))
    (l7 : K.lookup f7 = some ⟨oc7, od7, .func (PySem.W.fnOf "_law_twins_by" "_law_twins_by" (defArgs s__law_twins_by) (defBody s__law_twins_by) (defScope s__law_twins_by) .none kV7 dc7 pm7 an7 cd7 ct7), sl7⟩)
    (c7 : PySem.W.codeIn K cd7 "_law_twins_by" = true)
    (k7 : PySem.W.keepIn K (.ref f7) = true)
    (a8 : PySem.W.nsIn K mainGlobals "_law_thing" = some (some (.ref f8)))
    (l8 : K.lookup f8 = some ⟨oc8, od8, .func (PySem.W.fnOf "_law_thing" "_law_thing" (defArgs s__law_thing) (defBody s__law_thing) (defScope s__law_thing) .none kV8 dc8 pm8 an8 cd8 ct8), sl8⟩)
    (c8 : PySem.W.codeIn K cd8 "_law_thing" = true)
    (k8 : PySem.W.keepIn K (.ref f8) = true)
    (a9 : PySem.W.nsIn K mainGlobals "_law_closes" = some (some (.ref f9)))
    (l9 : K.lookup f9 = some ⟨oc9, od9, .func (PySem.W.fnOf "_law_closes" "_law_closes" (defArgs s__law_closes) (defBody s__law_closes) (defScope s__law_closes) .none kV9 dc9 pm9 an9 cd9 ct9), sl9⟩)
    (c9 : PySem.W.codeIn K cd9 "_law_closes" = true)
    (k9 : PySem.W.keepIn K (.ref f9) = true)
    (a10 : PySem.W.nsIn K mainGlobals "_law_is_stairs" = some (some (.ref f10)))
    (l10 : K.lookup f10 = some ⟨oc10, od10, .func (PySem.W.fnOf "_law_is_stairs" "_law_is_stairs" (defArgs s__law_is_stairs) (defBody s__law_is_stairs) (defScope s__law_is_stairs) .none kV10 dc10 pm10 an10 cd10 ct10), sl10⟩)
    (c10 : PySem.W.codeIn K cd10 "_law_is_stairs" = true)
    (k10 : PySem.W.keepIn K (.ref f10) = true)
    (a11 : PySem.W.nsIn K mainGlobals "closes" = some (some (.ref f11)))
    (l11 : K.lookup f11 = some ⟨oc11, od11, .func (PySem.W.fnOf "closes" "closes" (defArgs s_closes) (defBody s_closes) (defScope s_closes) .none kV11 dc11 pm11 an11 cd11 ct11), sl11⟩)
    (c11 : PySem.W.codeIn K cd11 "closes" = true)
    (k11 : PySem.W.keepIn K (.ref f11) = true)
    (l12 : K.lookup f12 = some ⟨oc12, od12, .func (PySem.W.fnOf "is_one" "Brackets.is_one" (defArgs s_Brackets__is_one) (defBody s_Brackets__is_one) (defScope s_Brackets__is_one) .none kV12 dc12 pm12 an12 cd12 ct12), sl12⟩)
    (c12 : PySem.W.codeIn K cd12 "Brackets.is_one" = true)
    (k12 : PySem.W.keepIn K (.ref f12) = true)
    (i12 : PySem.W.isFn K (.ref f12) = true)
    (l13 : K.lookup f13 = some ⟨oc13, od13, .func (PySem.W.fnOf "refuse_other" "Family.refuse_other" (defArgs s_Brackets__Family_refuse_other) (defBody s_Brackets__Family_refuse_other) (defScope s_Brackets__Family_refuse_other) .none kV13 dc13 pm13 an13 cd13 ct13), sl13⟩)
    (c13 : PySem.W.codeIn K cd13 "Family.refuse_other" = true)
    (k13 : PySem.W.keepIn K (.ref f13) = true)
    (i13 : PySem.W.isFn K (.ref f13) = true)
    (l14 : K.lookup f14 = some ⟨oc14, od14, .func (PySem.W.fnOf "is_one" "Stairs.is_one" (defArgs s_Stairs__is_one) (defBody s_Stairs__is_one) (defScope s_Stairs__is_one) .none kV14 dc14 pm14 an14 cd14 ct14), sl14⟩)
    (c14 : PySem.W.codeIn K cd14 "Stairs.is_one" = true)
    (k14 : PySem.W.keepIn K (.ref f14) = true)
    (i14 : PySem.W.isFn K (.ref f14) = true)
    (l15 : K.lookup f15 = some ⟨oc15, od15, .func (PySem.W.fnOf "refuse_other" "Family.refuse_other" (defArgs s_Stairs__Family_refuse_other) (defBody s_Stairs__Family_refuse_other) (defScope s_Stairs__Family_refuse_other) .none kV15 dc15 pm15 an15 cd15 ct15), sl15⟩)
    (c15 : PySem.W.codeIn K cd15 "Family.refuse_other" = true)
    (k15 : PySem.W.keepIn K (.ref f15) = true)
    (i15 : PySem.W.isFn K (.ref f15) = true)
    (l16 : K.lookup f16 = some ⟨oc16, od16, .func (PySem.W.fnOf "is_one" "Twins.is_one" (defArgs s_Twins__is_one) (defBody s_Twins__is_one) (defScope s_Twins__is_one) .none kV16 dc16 pm16 an16 cd16 ct16), sl16⟩)
    (c16 : PySem.W.codeIn K cd16 "Twins.is_one" = true)
    (k16 : PySem.W.keepIn K (.ref f16) = true)
    (i16 : PySem.W.isFn K (.ref f16) = true)
    (l17 : K.lookup f17 = some ⟨oc17, od17, .func (PySem.W.fnOf "refuse_other" "Family.refuse_other" (defArgs s_Twins__Family_refuse_other) (defBody s_Twins__Family_refuse_other) (defScope s_Twins__Family_refuse_other) .none kV17 dc17 pm17 an17 cd17 ct17), sl17⟩)
    (c17 : PySem.W.codeIn K cd17 "Family.refuse_other" = true)
    (k17 : PySem.W.keepIn K (.ref f17) = true)
    (i17 : PySem.W.isFn K (.ref f17) = true)
    (l18 : K.lookup f18 = some ⟨oc18, od18, .func (PySem.W.fnOf "size_of" "Brackets.size_of" (defArgs s_Brackets__size_of) (defBody s_Brackets__size_of) (defScope s_Brackets__size_of) .none kV18 dc18 pm18 an18 cd18 ct18), sl18⟩)
    (c18 : PySem.W.codeIn K cd18 "Brackets.size_of" = true)
    (k18 : PySem.W.keepIn K (.ref f18) = true)
    (i18 : PySem.W.isFn K (.ref f18) = true)
    (l19 : K.lookup f19 = some ⟨oc19, od19, .func (PySem.W.fnOf "size_of" "Stairs.size_of" (defArgs s_Stairs__size_of) (defBody s_Stairs__size_of) (defScope s_Stairs__size_of) .none kV19 dc19 pm19 an19 cd19 ct19), sl19⟩)
    (c19 : PySem.W.codeIn K cd19 "Stairs.size_of" = true)
    (k19 : PySem.W.keepIn K (.ref f19) = true)
    (i19 : PySem.W.isFn K (.ref f19) = true)
    (l20 : K.lookup f20 = some ⟨oc20, od20, .func (PySem.W.fnOf "size_of" "Twins.size_of" (defArgs s_Twins__size_of) (defBody s_Twins__size_of) (defScope s_Twins__size_of) .none kV20 dc20 pm20 an20 cd20 ct20), sl20⟩)
    (c20 : PySem.W.codeIn K cd20 "Twins.size_of" = true)
    (k20 : PySem.W.keepIn K (.ref f20) = true)
    (i20 : PySem.W.isFn K (.ref f20) = true)
    (l21 : K.lookup f21 = some ⟨oc21, od21, .func (PySem.W.fnOf "bare" "Brackets.bare" (defArgs s_Brackets__bare) (defBody s_Brackets__bare) (defScope s_Brackets__bare) .none kV21 dc21 pm21 an21 cd21 ct21), sl21⟩)
    (c21 : PySem.W.codeIn K cd21 "Brackets.bare" = true)
    (k21 : PySem.W.keepIn K (.ref f21) = true)
    (i21 : PySem.W.isFn K (.ref f21) = true)
    (l22 : K.lookup f22 = some ⟨oc22, od22, .func (PySem.W.fnOf "bare" "Stairs.bare" (defArgs s_Stairs__bare) (defBody s_Stairs__bare) (defScope s_Stairs__bare) .none kV22 dc22 pm22 an22 cd22 ct22), sl22⟩)
    (c22 : PySem.W.codeIn K cd22 "Stairs.bare" = true)
    (k22 : PySem.W.keepIn K (.ref f22) = true)
    (i22 : PySem.W.isFn K (.ref f22) = true)
    (l23 : K.lookup f23 = some ⟨oc23, od23, .func (PySem.W.fnOf "bare" "Twins.bare" (defArgs s_Twins__bare) (defBody s_Twins__bare) (defScope s_Twins__bare) .none kV23 dc23 pm23 an23 cd23 ct23), sl23⟩)
    (c23 : PySem.W.codeIn K cd23 "Twins.bare" = true)
    (k23 : PySem.W.keepIn K (.ref f23) = true)
    (i23 : PySem.W.isFn K (.ref f23) = true)
    (a24 : PySem.W.nsIn K mainGlobals "first_close" = some (some (.ref f24)))
    (l24 : K.lookup f24 = some ⟨oc24, od24, .func (PySem.W.fnOf "first_close" "first_close" (defArgs s_first_close) (defBody s_first_close) (defScope s_first_close) .none kV24 dc24 pm24 an24 cd24 ct24), sl24⟩)
    (c24 : PySem.W.codeIn K cd24 "first_close" = true)
    (k24 : PySem.W.keepIn K (.ref f24) = true)
    (l25 : K.lookup f25 = some ⟨oc25, od25, .func (PySem.W.fnOf "parted" "Brackets.parted" (defArgs s_Brackets__parted) (defBody s_Brackets__parted) (defScope s_Brackets__parted) .none kV25 dc25 pm25 an25 cd25 ct25), sl25⟩)
    (c25 : PySem.W.codeIn K cd25 "Brackets.parted" = true)
    (k25 : PySem.W.keepIn K (.ref f25) = true)
    (i25 : PySem.W.isFn K (.ref f25) = true)
    (a26 : PySem.W.nsIn K mainGlobals "right_begin" = some (some (.ref f26)))
    (l26 : K.lookup f26 = some ⟨oc26, od26, .func (PySem.W.fnOf "right_begin" "right_begin" (defArgs s_right_begin) (defBody s_right_begin) (defScope s_right_begin) .none kV26 dc26 pm26 an26 cd26 ct26), sl26⟩)
    (c26 : PySem.W.codeIn K cd26 "right_begin" = true)
    (k26 : PySem.W.keepIn K (.ref f26) = true)
    (a27 : PySem.W.nsIn K mainGlobals "raised_by" = some (some (.ref f27)))
    (l27 : K.lookup f27 = some ⟨oc27, od27, .func (PySem.W.fnOf "raised_by" "raised_by" (defArgs s_raised_by) (defBody s_raised_by) (defScope s_raised_by) .none kV27 dc27 pm27 an27 cd27 ct27), sl27⟩)
    (c27 : PySem.W.codeIn K cd27 "raised_by" = true)
    (k27 : PySem.W.keepIn K (.ref f27) = true)
    (l28 : K.lookup f28 = some ⟨oc28, od28, .func (PySem.W.fnOf "parted" "Stairs.parted" (defArgs s_Stairs__parted) (defBody s_Stairs__parted) (defScope s_Stairs__parted) .none kV28 dc28 pm28 an28 cd28 ct28), sl28⟩)
    (c28 : PySem.W.codeIn K cd28 "Stairs.parted" = true)
    (k28 : PySem.W.keepIn K (.ref f28) = true)
    (i28 : PySem.W.isFn K (.ref f28) = true)
    (l29 : K.lookup f29 = some ⟨oc29, od29, .func (PySem.W.fnOf "parted" "Twins.parted" (defArgs s_Twins__parted) (defBody s_Twins__parted) (defScope s_Twins__parted) .none kV29 dc29 pm29 an29 cd29 ct29), sl29⟩)
    (c29 : PySem.W.codeIn K cd29 "Twins.parted" = true)
    (k29 : PySem.W.keepIn K (.ref f29) = true)
    (i29 : PySem.W.isFn K (.ref f29) = true)
    (l30 : K.lookup f30 = some ⟨oc30, od30, .func (PySem.W.fnOf "joined" "Brackets.joined" (defArgs s_Brackets__joined) (defBody s_Brackets__joined) (defScope s_Brackets__joined) .none kV30 dc30 pm30 an30 cd30 ct30), sl30⟩)
    (c30 : PySem.W.codeIn K cd30 "Brackets.joined" = true)
    (k30 : PySem.W.keepIn K (.ref f30) = true)
    (i30 : PySem.W.isFn K (.ref f30) = true)
    (l31 : K.lookup f31 = some ⟨oc31, od31, .func (PySem.W.fnOf "joined" "Stairs.joined" (defArgs s_Stairs__joined) (defBody s_Stairs__joined) (defScope s_Stairs__joined) .none kV31 dc31 pm31 an31 cd31 ct31), sl31⟩)
    (c31 : PySem.W.codeIn K cd31 "Stairs.joined" = true)
    (k31 : PySem.W.keepIn K (.ref f31) = true)
    (i31 : PySem.W.isFn K (.ref f31) = true)
    (l32 : K.lookup f32 = some ⟨oc32, od32, .func (PySem.W.fnOf "joined" "Twins.joined" (defArgs s_Twins__joined) (defBody s_Twins__joined) (defScope s_Twins__joined) .none kV32 dc32 pm32 an32 cd32 ct32), sl32⟩)
    (c32 : PySem.W.codeIn K cd32 "Twins.joined" = true)
    (k32 : PySem.W.keepIn K (.ref f32) = true)
    (i32 : PySem.W.isFn K (.ref f32) = true)
    (a33 : PySem.W.nsIn K mainGlobals "led_by_parts" = some (some (.ref f33)))
    (l33 : K.lookup f33 = some ⟨oc33, od33, .func (PySem.W.fnOf "led_by_parts" "led_by_parts" (defArgs s_led_by_parts) (defBody s_led_by_parts) (defScope s_led_by_parts) .none kV33 dc33 pm33 an33 cd33 ct33), sl33⟩)
    (c33 : PySem.W.codeIn K cd33 "led_by_parts" = true)
    (k33 : PySem.W.keepIn K (.ref f33) = true)
    (a34 : PySem.W.nsIn K mainGlobals "by_parts" = some (some (.ref f34)))
    (l34 : K.lookup f34 = some ⟨oc34, od34, .func (PySem.W.fnOf "by_parts" "by_parts" (defArgs s_by_parts) (defBody s_by_parts) (defScope s_by_parts) .none kV34 dc34 pm34 an34 cd34 ct34), sl34⟩)
    (c34 : PySem.W.codeIn K cd34 "by_parts" = true)
    (k34 : PySem.W.keepIn K (.ref f34) = true)
    (l35 : K.lookup f35 = some ⟨oc35, od35, .func (PySem.W.fnOf "__init__" "Family.__init__" (defArgs s_Brackets__Family___init__) (defBody s_Brackets__Family___init__) (defScope s_Brackets__Family___init__) .none kV35 dc35 pm35 an35 cd35 ct35), sl35⟩)
    (c35 : PySem.W.codeIn K cd35 "Family.__init__" = true)
    (k35 : PySem.W.keepIn K (.ref f35) = true)
    (i35 : PySem.W.isFn K (.ref f35) = true)
    (l36 : K.lookup f36 = some ⟨oc36, od36, .func (PySem.W.fnOf "__init__" "SplitFamily.__init__" (defArgs s_Brackets__SplitFamily___init__) (defBody s_Brackets__SplitFamily___init__) (defScope s_Brackets__SplitFamily___init__) .none kV36 dc36 pm36 an36 cd36 ct36), sl36⟩)
    (c36 : PySem.W.codeIn K cd36 "SplitFamily.__init__" = true)
    (k36 : PySem.W.keepIn K (.ref f36) = true)
    (i36 : PySem.W.isFn K (.ref f36) = true)
    (l37 : K.lookup f37 = some ⟨oc37, od37, .func (PySem.W.fnOf "__init__" "Brackets.__init__" (defArgs s_Brackets____init__) (defBody s_Brackets____init__) (defScope s_Brackets____init__) .none kV37 dc37 pm37 an37 cd37 ct37), sl37⟩)
    (c37 : PySem.W.codeIn K cd37 "Brackets.__init__" = true)
    (k37 : PySem.W.keepIn K (.ref f37) = true)
    (i37 : PySem.W.isFn K (.ref f37) = true)
    (l38 : K.lookup f38 = some ⟨oc38, od38, .func (PySem.W.fnOf "__init__" "Family.__init__" (defArgs s_Stairs__Family___init__) (defBody s_Stairs__Family___init__) (defScope s_Stairs__Family___init__) .none kV38 dc38 pm38 an38 cd38 ct38), sl38⟩)
    (c38 : PySem.W.codeIn K cd38 "Family.__init__" = true)
    (k38 : PySem.W.keepIn K (.ref f38) = true)
    (i38 : PySem.W.isFn K (.ref f38) = true)
    (l39 : K.lookup f39 = some ⟨oc39, od39, .func (PySem.W.fnOf "__init__" "SplitFamily.__init__" (defArgs s_Stairs__SplitFamily___init__) (defBody s_Stairs__SplitFamily___init__) (defScope s_Stairs__SplitFamily___init__) .none kV39 dc39 pm39 an39 cd39 ct39), sl39⟩)
    (c39 : PySem.W.codeIn K cd39 "SplitFamily.__init__" = true)
    (k39 : PySem.W.keepIn K (.ref f39) = true)
    (i39 : PySem.W.isFn K (.ref f39) = true)
    (l40 : K.lookup f40 = some ⟨oc40, od40, .func (PySem.W.fnOf "__init__" "Stairs.__init__" (defArgs s_Stairs____init__) (defBody s_Stairs____init__) (defScope s_Stairs____init__) .none kV40 dc40 pm40 an40 cd40 ct40), sl40⟩)
    (c40 : PySem.W.codeIn K cd40 "Stairs.__init__" = true)
    (k40 : PySem.W.keepIn K (.ref f40) = true)
    (i40 : PySem.W.isFn K (.ref f40) = true)
    (l41 : K.lookup f41 = some ⟨oc41, od41, .func (PySem.W.fnOf "__init__" "Family.__init__" (defArgs s_Twins__Family___init__) (defBody s_Twins__Family___init__) (defScope s_Twins__Family___init__) .none kV41 dc41 pm41 an41 cd41 ct41), sl41⟩)
    (c41 : PySem.W.codeIn K cd41 "Family.__init__" = true)
    (k41 : PySem.W.keepIn K (.ref f41) = true)
    (i41 : PySem.W.isFn K (.ref f41) = true)
    (l42 : K.lookup f42 = some ⟨oc42, od42, .func (PySem.W.fnOf "__init__" "SplitFamily.__init__" (defArgs s_Twins__SplitFamily___init__) (defBody s_Twins__SplitFamily___init__) (defScope s_Twins__SplitFamily___init__) .none kV42 dc42 pm42 an42 cd42 ct42), sl42⟩)
    (c42 : PySem.W.codeIn K cd42 "SplitFamily.__init__" = true)
    (k42 : PySem.W.keepIn K (.ref f42) = true)
    (i42 : PySem.W.isFn K (.ref f42) = true)
    (l43 : K.lookup f43 = some ⟨oc43, od43, .func (PySem.W.fnOf "__init__" "Twins.__init__" (defArgs s_Twins____init__) (defBody s_Twins____init__) (defScope s_Twins____init__) .none kV43 dc43 pm43 an43 cd43 ct43), sl43⟩)
    (c43 : PySem.W.codeIn K cd43 "Twins.__init__" = true)
    (k43 : PySem.W.keepIn K (.ref f43) = true)
    (i43 : PySem.W.isFn K (.ref f43) = true)
    (a44 : PySem.W.nsIn K mainGlobals "_law_kin" = some (some (.ref f44)))
    (l44 : K.lookup f44 = some ⟨oc44, od44, .func (PySem.W.fnOf "_law_kin" "_law_kin" (defArgs s__law_kin) (defBody s__law_kin) (defScope s__law_kin) .none kV44 dc44 pm44 an44 cd44 ct44), sl44⟩)
    (c44 : PySem.W.codeIn K cd44 "_law_kin" = true)
    (k44 : PySem.W.keepIn K (.ref f44) = true)
    (a45 : PySem.W.nsIn K mainGlobals "_law_classes" = some (some (.ref f45)))
    (l45 : K.lookup f45 = some ⟨oc45, od45, .func (PySem.W.fnOf "_law_classes" "_law_classes" (defArgs s__law_classes) (defBody s__law_classes) (defScope s__law_classes) .none kV45 dc45 pm45 an45 cd45 ct45), sl45⟩)
    (c45 : PySem.W.codeIn K cd45 "_law_classes" = true)
    (k45 : PySem.W.keepIn K (.ref f45) = true)
    (a46 : PySem.W.nsIn K mainGlobals "_law_refused" = some (some (.ref f46)))
    (l46 : K.lookup f46 = some ⟨oc46, od46, .func (PySem.W.fnOf "_law_refused" "_law_refused" (defArgs s__law_refused) (defBody s__law_refused) (defScope s__law_refused) .none kV46 dc46 pm46 an46 cd46 ct46), sl46⟩)
    (c46 : PySem.W.codeIn K cd46 "_law_refused" = true)
    (k46 : PySem.W.keepIn K (.ref f46) = true)
    (a47 : PySem.W.nsIn K mainGlobals "_law_whole" = some (some (.ref f47)))
    (l47 : K.lookup f47 = some ⟨oc47, od47, .func (PySem.W.fnOf "_law_whole" "_law_whole" (defArgs s__law_whole) (defBody s__law_whole) (defScope s__law_whole) .none kV47 dc47 pm47 an47 cd47 ct47), sl47⟩)
    (c47 : PySem.W.codeIn K cd47 "_law_whole" = true)
    (k47 : PySem.W.keepIn K (.ref f47) = true)
    (a48 : PySem.W.nsIn K mainGlobals "_law_numbers" = some (some (.ref f48)))
    (l48 : K.lookup f48 = some ⟨oc48, od48, .func (PySem.W.fnOf "_law_numbers" "_law_numbers" (defArgs s__law_numbers) (defBody s__law_numbers) (defScope s__law_numbers) .none kV48 dc48 pm48 an48 cd48 ct48), sl48⟩)
    (c48 : PySem.W.codeIn K cd48 "_law_numbers" = true)
    (k48 : PySem.W.keepIn K (.ref f48) = true)
    (a49 : PySem.W.nsIn K mainGlobals "_law_same_twins" = some (some (.ref f49)))
    (l49 : K.lookup f49 = some ⟨oc49, od49, .func (PySem.W.fnOf "_law_same_twins" "_law_same_twins" (defArgs s__law_same_twins) (defBody s__law_same_twins) (defScope s__law_same_twins) .none kV49 dc49 pm49 an49 cd49 ct49), sl49⟩)
    (c49 : PySem.W.codeIn K cd49 "_law_same_twins" = true)
    (k49 : PySem.W.keepIn K (.ref f49) = true)
    (a50 : PySem.W.nsIn K mainGlobals "_law_same" = some (some (.ref f50)))
    (l50 : K.lookup f50 = some ⟨oc50, od50, .func (PySem.W.fnOf "_law_same" "_law_same" (defArgs s__law_same) (defBody s__law_same) (defScope s__law_same) .none kV50 dc50 pm50 an50 cd50 ct50), sl50⟩)
    (c50 : PySem.W.codeIn K cd50 "_law_same" = true)
    (k50 : PySem.W.keepIn K (.ref f50) = true)
    (a51 : PySem.W.nsIn K mainGlobals "law" = some (some (.ref f51)))
    (l51 : K.lookup f51 = some ⟨oc51, od51, .func (PySem.W.fnOf "law" "law" (defArgs s_law) (defBody s_law) (defScope s_law) .none kV51 dc51 pm51 an51 cd51 ct51), sl51⟩)
    (c51 : PySem.W.codeIn K cd51 "law" = true)
    (k51 : PySem.W.keepIn K (.ref f51) = true)
    (pg_Brackets : PySem.W.plainGet K C_Brackets Str.empty = true)
    (hd_Brackets : PySem.W.hasDictIn K C_Brackets = true)
    (po_Brackets : PySem.W.plainOver K C_Brackets = true)
    (sa_Brackets : PySem.W.findIn K (.ref C_Brackets) "__setattr__" = some (some (.builtin "object.__setattr__")))
    (pg_Stairs : PySem.W.plainGet K C_Stairs Str.empty = true)
    (hd_Stairs : PySem.W.hasDictIn K C_Stairs = true)
    (po_Stairs : PySem.W.plainOver K C_Stairs = true)
    (sa_Stairs : PySem.W.findIn K (.ref C_Stairs) "__setattr__" = some (some (.builtin "object.__setattr__")))
    (pg_Twins : PySem.W.plainGet K C_Twins Str.empty = true)
    (hd_Twins : PySem.W.hasDictIn K C_Twins = true)
    (po_Twins : PySem.W.plainOver K C_Twins = true)
    (sa_Twins : PySem.W.findIn K (.ref C_Twins) "__setattr__" = some (some (.builtin "object.__setattr__")))
    (mk_Brackets : PySem.W.makesIn K C_Brackets = true)
    (kc_Brackets : PySem.W.keepIn K (.ref C_Brackets) = true)
    (mk_Stairs : PySem.W.makesIn K C_Stairs = true)
    (kc_Stairs : PySem.W.keepIn K (.ref C_Stairs) = true)
    (mk_Twins : PySem.W.makesIn K C_Twins = true)
    (kc_Twins : PySem.W.keepIn K (.ref C_Twins) = true)
    (na_Brackets_word : PySem.W.findIn K (.ref C_Brackets) "word" = some none)
    (na_Brackets_least : PySem.W.findIn K (.ref C_Brackets) "least" = some none)
    (na_Stairs_word : PySem.W.findIn K (.ref C_Stairs) "word" = some none)
    (na_Stairs_least : PySem.W.findIn K (.ref C_Stairs) "least" = some none)
    (na_Twins_word : PySem.W.findIn K (.ref C_Twins) "word" = some none)
    (na_Twins_least : PySem.W.findIn K (.ref C_Twins) "least" = some none)
    (z_len : PySem.W.nsIn K mainGlobals "len" = some none)
    (z_range : PySem.W.nsIn K mainGlobals "range" = some none)
    (z_list : PySem.W.nsIn K mainGlobals "list" = some none)
    (z_enumerate : PySem.W.nsIn K mainGlobals "enumerate" = some none)
    (z_isinstance : PySem.W.nsIn K mainGlobals "isinstance" = some none)
    (z_ValueError : PySem.W.nsIn K mainGlobals "ValueError" = some none)
    (z_int : PySem.W.nsIn K mainGlobals "int" = some none)
    (z_bool : PySem.W.nsIn K mainGlobals "bool" = some none)
    (z_tuple : PySem.W.nsIn K mainGlobals "tuple" = some none)
    (z_str : PySem.W.nsIn K mainGlobals "str" = some none)
    {c_kin : Addr} {c_size : Addr} {c_number : Addr} {c_thing : Addr} {c_family : Addr} {c_way : Addr} {c_apart : Addr} {c_mark : Addr} {c_text : Addr} {c_broken : Addr}
    (n_kin : PySem.W.nsIn K mainGlobals "KinError" = some (some (.ref c_kin)))
    (n_size : PySem.W.nsIn K mainGlobals "NoSize" = some (some (.ref c_size)))
    (n_number : PySem.W.nsIn K mainGlobals "NoNumber" = some (some (.ref c_number)))
    (n_thing : PySem.W.nsIn K mainGlobals "NoThing" = some (some (.ref c_thing)))
    (n_family : PySem.W.nsIn K mainGlobals "NoFamily" = some (some (.ref c_family)))
    (n_way : PySem.W.nsIn K mainGlobals "NoWay" = some (some (.ref c_way)))
    (n_apart : PySem.W.nsIn K mainGlobals "Apart" = some (some (.ref c_apart)))
    (n_mark : PySem.W.nsIn K mainGlobals "NoMark" = some (some (.ref c_mark)))
    (n_text : PySem.W.nsIn K mainGlobals "NoText" = some (some (.ref c_text)))
    (n_broken : PySem.W.nsIn K mainGlobals "Broken" = some (some (.ref c_broken)))
    (t_err : errTab K ⟨c_kin, c_size, c_number, c_thing, c_family, c_way, c_apart, c_mark, c_text, c_broken⟩ = true) :
    ∃ fd : FuncData, (∀ (s : Shared) (v : Value), BindsTo s fd ⟨[v], []⟩ [("_law_script", v)]) ∧ ∀ base : Heap, K.In base → base.Ns mainGlobals mg → FnOk l.prog w K mg base CX0 47 fa fd ["_law_script"] (spL K) := by
  have e := hfa.symm.trans (PySem.W.mg_of X G a51)
  cases e
  have EO : ErrOk K mg ⟨c_kin, c_size, c_number, c_thing, c_family, c_way, c_apart, c_mark, c_text, c_broken⟩ := errOk t_err (PySem.W.mg_of X G n_kin) (PySem.W.mg_of X G n_size) (PySem.W.mg_of X G n_number) (PySem.W.mg_of X G n_thing) (PySem.W.mg_of X G n_family) (PySem.W.mg_of X G n_way) (PySem.W.mg_of X G n_apart) (PySem.W.mg_of X G n_mark) (PySem.W.mg_of X G n_text) (PySem.W.mg_of X G n_broken)
  have CA : ClOk K mg ⟨C_Brackets, C_Stairs, C_Twins, C_SplitFamily, C_Family, f12, f13, f14, f15, f16, f17, f18, f19, f20, f21, f22, f23, f25, f28, f29, f30, f31, f32, f35, f36, f37, f38, f39, f40, f41, f42, f43⟩ := ⟨PySem.W.mg_of X G nc_Brackets, PySem.W.mg_of X G nc_Stairs, PySem.W.mg_of X G nc_Twins, PySem.W.mg_of X G nc_SplitFamily, PySem.W.mg_of X G nc_Family, ⟨pg_Brackets, hd_Brackets, po_Brackets, sa_Brackets⟩, ⟨pg_Stairs, hd_Stairs, po_Stairs, sa_Stairs⟩, ⟨pg_Twins, hd_Twins, po_Twins, sa_Twins⟩, ⟨a_Brackets_refuse_other, i13, k13⟩, ⟨a_Stairs_refuse_other, i15, k15⟩, ⟨a_Twins_refuse_other, i17, k17⟩, ⟨a_Brackets_is_one, i12, k12⟩, ⟨a_Stairs_is_one, i14, k14⟩, ⟨a_Twins_is_one, i16, k16⟩, ⟨a_Brackets_size_of, i18, k18⟩, ⟨a_Stairs_size_of, i19, k19⟩, ⟨a_Twins_size_of, i20, k20⟩, ⟨a_Brackets_bare, i21, k21⟩, ⟨a_Stairs_bare, i22, k22⟩, ⟨a_Twins_bare, i23, k23⟩, ⟨a_Brackets_parted, i25, k25⟩, ⟨a_Stairs_parted, i28, k28⟩, ⟨a_Twins_parted, i29, k29⟩, ⟨a_Brackets_joined, i30, k30⟩, ⟨a_Stairs_joined, i31, k31⟩, ⟨a_Twins_joined, i32, k32⟩, ⟨mk_Brackets, ai_Brackets, i37, kc_Brackets⟩, ⟨mk_Stairs, ai_Stairs, i40, kc_Stairs⟩, ⟨mk_Twins, ai_Twins, i43, kc_Twins⟩, ⟨cg_SplitFamily___init___Brackets, cr_SplitFamily___init___Brackets, ch_SplitFamily___init___Brackets, k36⟩, ⟨cg_Family___init___Brackets, cr_Family___init___Brackets, ch_Family___init___Brackets, k35⟩, ⟨cg_SplitFamily___init___Stairs, cr_SplitFamily___init___Stairs, ch_SplitFamily___init___Stairs, k39⟩, ⟨cg_Family___init___Stairs, cr_Family___init___Stairs, ch_Family___init___Stairs, k38⟩, ⟨cg_SplitFamily___init___Twins, cr_SplitFamily___init___Twins, ch_SplitFamily___init___Twins, k42⟩, ⟨cg_Family___init___Twins, cr_Family___init___Twins, ch_Family___init___Twins, k41⟩, na_Brackets_word, na_Brackets_least, na_Stairs_word, na_Stairs_least, na_Twins_word, na_Twins_least⟩
  have F1 := fun_mk (st := s__law_cell_at) l1 c1 k1
  have b1 := F1.binds (ps := ["_law_script", "_law_k"]) fun _ _ _ _ _ _ => lenAll2 (fun _ _ => rfl)
  have F2 := fun_mk (st := s__law_mix) l2 c2 k2
  have b2 := F2.binds (ps := ["_law_cell", "_law_turn"]) fun _ _ _ _ _ _ => lenAll2 (fun _ _ => rfl)
  have F3 := fun_mk (st := s__law_draws) l3 c3 k3
  have b3 := F3.binds (ps := ["_law_script", "_law_turn", "_law_many"]) fun _ _ _ _ _ _ => lenAll3 (fun _ _ _ => rfl)
  have F4 := fun_mk (st := s__law_text_by) l4 c4 k4
  have b4 := F4.binds (ps := ["_law_script", "_law_size", "_law_turn"]) fun _ _ _ _ _ _ => lenAll3 (fun _ _ _ => rfl)
  have F5 := fun_mk (st := s__law_spoiled_text) l5 c5 k5
  have b5 := F5.binds (ps := ["_law_text", "_law_cell"]) fun _ _ _ _ _ _ => lenAll2 (fun _ _ => rfl)
  have F6 := fun_mk (st := s__law_spoiled_row) l6 c6 k6
  have b6 := F6.binds (ps := ["_law_row", "_law_cell", "_law_far"]) fun _ _ _ _ _ _ => lenAll3 (fun _ _ _ => rfl)
  have F7 := fun_mk (st := s__law_twins_by) l7 c7 k7
  have b7 := F7.binds (ps := ["_law_text"]) fun _ _ _ _ _ _ => lenAll1 (fun _ => rfl)
  have F8 := fun_mk (st := s__law_thing) l8 c8 k8
  have b8 := F8.binds (ps := ["_law_way", "_law_text"]) fun _ _ _ _ _ _ => lenAll2 (fun _ _ => rfl)
  have F9 := fun_mk (st := s__law_closes) l9 c9 k9
  have b9 := F9.binds (ps := ["_law_text"]) fun _ _ _ _ _ _ => lenAll1 (fun _ => rfl)
  have F10 := fun_mk (st := s__law_is_stairs) l10 c10 k10
  have b10 := F10.binds (ps := ["_law_row"]) fun _ _ _ _ _ _ => lenAll1 (fun _ => rfl)
  have F11 := fun_mk (st := s_closes) l11 c11 k11
  have b11 := F11.binds (ps := ["text"]) fun _ _ _ _ _ _ => lenAll1 (fun _ => rfl)
  have F12 := fun_mk (st := s_Brackets__is_one) l12 c12 k12
  have b12 := F12.binds (ps := ["self", "thing"]) fun _ _ _ _ _ _ => lenAll2 (fun _ _ => rfl)
  have F13 := fun_mk (st := s_Brackets__Family_refuse_other) l13 c13 k13
  have b13 := F13.binds (ps := ["self", "thing"]) fun _ _ _ _ _ _ => lenAll2 (fun _ _ => rfl)
  have F14 := fun_mk (st := s_Stairs__is_one) l14 c14 k14
  have b14 := F14.binds (ps := ["self", "thing"]) fun _ _ _ _ _ _ => lenAll2 (fun _ _ => rfl)
  have F15 := fun_mk (st := s_Stairs__Family_refuse_other) l15 c15 k15
  have b15 := F15.binds (ps := ["self", "thing"]) fun _ _ _ _ _ _ => lenAll2 (fun _ _ => rfl)
  have F16 := fun_mk (st := s_Twins__is_one) l16 c16 k16
  have b16 := F16.binds (ps := ["self", "thing"]) fun _ _ _ _ _ _ => lenAll2 (fun _ _ => rfl)
  have F17 := fun_mk (st := s_Twins__Family_refuse_other) l17 c17 k17
  have b17 := F17.binds (ps := ["self", "thing"]) fun _ _ _ _ _ _ => lenAll2 (fun _ _ => rfl)
  have F18 := fun_mk (st := s_Brackets__size_of) l18 c18 k18
  have b18 := F18.binds (ps := ["self", "thing"]) fun _ _ _ _ _ _ => lenAll2 (fun _ _ => rfl)
  have F19 := fun_mk (st := s_Stairs__size_of) l19 c19 k19
  have b19 := F19.binds (ps := ["self", "thing"]) fun _ _ _ _ _ _ => lenAll2 (fun _ _ => rfl)
  have F20 := fun_mk (st := s_Twins__size_of) l20 c20 k20
  have b20 := F20.binds (ps := ["self", "thing"]) fun _ _ _ _ _ _ => lenAll2 (fun _ _ => rfl)
  have F21 := fun_mk (st := s_Brackets__bare) l21 c21 k21
  have b21 := F21.binds (ps := ["self"]) fun _ _ _ _ _ _ => lenAll1 (fun _ => rfl)
  have F22 := fun_mk (st := s_Stairs__bare) l22 c22 k22
  have b22 := F22.binds (ps := ["self"]) fun _ _ _ _ _ _ => lenAll1 (fun _ => rfl)
  have F23 := fun_mk (st := s_Twins__bare) l23 c23 k23
  have b23 := F23.binds (ps := ["self"]) fun _ _ _ _ _ _ => lenAll1 (fun _ => rfl)
  have F24 := fun_mk (st := s_first_close) l24 c24 k24
  have b24 := F24.binds (ps := ["text"]) fun _ _ _ _ _ _ => lenAll1 (fun _ => rfl)
  have F25 := fun_mk (st := s_Brackets__parted) l25 c25 k25
  have b25 := F25.binds (ps := ["self", "thing"]) fun _ _ _ _ _ _ => lenAll2 (fun _ _ => rfl)
  have F26 := fun_mk (st := s_right_begin) l26 c26 k26
  have b26 := F26.binds (ps := ["stairs"]) fun _ _ _ _ _ _ => lenAll1 (fun _ => rfl)
  have F27 := fun_mk (st := s_raised_by) l27 c27 k27
  have b27 := F27.binds (ps := ["numbers", "step"]) fun _ _ _ _ _ _ => lenAll2 (fun _ _ => rfl)
  have F28 := fun_mk (st := s_Stairs__parted) l28 c28 k28
  have b28 := F28.binds (ps := ["self", "thing"]) fun _ _ _ _ _ _ => lenAll2 (fun _ _ => rfl)
  have F29 := fun_mk (st := s_Twins__parted) l29 c29 k29
  have b29 := F29.binds (ps := ["self", "thing"]) fun _ _ _ _ _ _ => lenAll2 (fun _ _ => rfl)
  have F30 := fun_mk (st := s_Brackets__joined) l30 c30 k30
  have b30 := F30.binds (ps := ["self", "left", "right"]) fun _ _ _ _ _ _ => lenAll3 (fun _ _ _ => rfl)
  have F31 := fun_mk (st := s_Stairs__joined) l31 c31 k31
  have b31 := F31.binds (ps := ["self", "left", "right"]) fun _ _ _ _ _ _ => lenAll3 (fun _ _ _ => rfl)
  have F32 := fun_mk (st := s_Twins__joined) l32 c32 k32
  have b32 := F32.binds (ps := ["self", "left", "right"]) fun _ _ _ _ _ _ => lenAll3 (fun _ _ _ => rfl)
  have F33 := fun_mk (st := s_led_by_parts) l33 c33 k33
  have b33 := F33.binds (ps := ["one", "other", "thing"]) fun _ _ _ _ _ _ => lenAll3 (fun _ _ _ => rfl)
  have F34 := fun_mk (st := s_by_parts) l34 c34 k34
  have b34 := F34.binds (ps := ["one", "other", "thing"]) fun _ _ _ _ _ _ => lenAll3 (fun _ _ _ => rfl)
  have F35 := fun_mk (st := s_Brackets__Family___init__) l35 c35 k35
  have b35 := F35.binds (ps := ["self", "word", "least"]) fun _ _ _ _ _ _ => lenAll3 (fun _ _ _ => rfl)
  have F36 := fun_mk (st := s_Brackets__SplitFamily___init__) l36 c36 k36
  have b36 := F36.binds (ps := ["self", "word"]) fun _ _ _ _ _ _ => lenAll2 (fun _ _ => rfl)
  have F37 := fun_mk (st := s_Brackets____init__) l37 c37 k37
  have b37 := F37.binds (ps := ["self"]) fun _ _ _ _ _ _ => lenAll1 (fun _ => rfl)
  have F38 := fun_mk (st := s_Stairs__Family___init__) l38 c38 k38
  have b38 := F38.binds (ps := ["self", "word", "least"]) fun _ _ _ _ _ _ => lenAll3 (fun _ _ _ => rfl)
  have F39 := fun_mk (st := s_Stairs__SplitFamily___init__) l39 c39 k39
  have b39 := F39.binds (ps := ["self", "word"]) fun _ _ _ _ _ _ => lenAll2 (fun _ _ => rfl)
  have F40 := fun_mk (st := s_Stairs____init__) l40 c40 k40
  have b40 := F40.binds (ps := ["self"]) fun _ _ _ _ _ _ => lenAll1 (fun _ => rfl)
  have F41 := fun_mk (st := s_Twins__Family___init__) l41 c41 k41
  have b41 := F41.binds (ps := ["self", "word", "least"]) fun _ _ _ _ _ _ => lenAll3 (fun _ _ _ => rfl)
  have F42 := fun_mk (st := s_Twins__SplitFamily___init__) l42 c42 k42
  have b42 := F42.binds (ps := ["self", "word"]) fun _ _ _ _ _ _ => lenAll2 (fun _ _ => rfl)
  have F43 := fun_mk (st := s_Twins____init__) l43 c43 k43
  have b43 := F43.binds (ps := ["self"]) fun _ _ _ _ _ _ => lenAll1 (fun _ => rfl)
  have F44 := fun_mk (st := s__law_kin) l44 c44 k44
  have b44 := F44.binds (ps := ["_law_way"]) fun _ _ _ _ _ _ => lenAll1 (fun _ => rfl)
  have F45 := fun_mk (st := s__law_classes) l45 c45 k45
  have b45 := F45.binds (ps := ["_law_error"]) fun _ _ _ _ _ _ => lenAll1 (fun _ => rfl)
  have F46 := fun_mk (st := s__law_refused) l46 c46 k46
  have b46 := F46.binds (ps := ["_law_way", "_law_other", "_law_thing_here"]) fun _ _ _ _ _ _ => lenAll3 (fun _ _ _ => rfl)
  have F47 := fun_mk (st := s__law_whole) l47 c47 k47
  have b47 := F47.binds (ps := ["_law_found"]) fun _ _ _ _ _ _ => lenAll1 (fun _ => rfl)
  have F48 := fun_mk (st := s__law_numbers) l48 c48 k48
  have b48 := F48.binds (ps := ["_law_found", "_law_due"]) fun _ _ _ _ _ _ => lenAll2 (fun _ _ => rfl)
  have F49 := fun_mk (st := s__law_same_twins) l49 c49 k49
  have b49 := F49.binds (ps := ["_law_found", "_law_due"]) fun _ _ _ _ _ _ => lenAll2 (fun _ _ => rfl)
  have F50 := fun_mk (st := s__law_same) l50 c50 k50
  have b50 := F50.binds (ps := ["_law_way", "_law_found", "_law_due"]) fun _ _ _ _ _ _ => lenAll3 (fun _ _ _ => rfl)
  have F51 := fun_mk (st := s_law) l51 c51 k51
  have m_len := PySem.W.mg_none_of X G z_len
  have m_range := PySem.W.mg_none_of X G z_range
  have m_list := PySem.W.mg_none_of X G z_list
  have m_enumerate := PySem.W.mg_none_of X G z_enumerate
  have m_isinstance := PySem.W.mg_none_of X G z_isinstance
  have m_ValueError := PySem.W.mg_none_of X G z_ValueError
  have m_int := PySem.W.mg_none_of X G z_int
  have m_bool := PySem.W.mg_none_of X G z_bool
  have m_tuple := PySem.W.mg_none_of X G z_tuple
  have m_str := PySem.W.mg_none_of X G z_str
  refine ⟨PySem.W.fnOf "law" "law" (defArgs s_law) (defBody s_law) (defScope s_law) .none kV51 dc51 pm51 an51 cd51 ct51, fun s v => .of_eq rfl, fun base _ _ => ?_⟩
  have d__law_cell_at : Def l.prog w K mg base "_law_cell_at" ["_law_script", "_law_k"] 1 (sp__law_cell_at K ⟨C_Brackets, C_Stairs, C_Twins, C_SplitFamily, C_Family, f12, f13, f14, f15, f16, f17, f18, f19, f20, f21, f22, f23, f25, f28, f29, f30, f31, f32, f35, f36, f37, f38, f39, f40, f41, f42, f43⟩) f1 _ := ⟨(ok__law_cell_at (P := l.prog) (w := w) (base := base) EO CA F1 m_len).up, b1, k1, PySem.W.mg_of X G a1⟩
  have d__law_mix : Def l.prog w K mg base "_law_mix" ["_law_cell", "_law_turn"] 1 (sp__law_mix K ⟨C_Brackets, C_Stairs, C_Twins, C_SplitFamily, C_Family, f12, f13, f14, f15, f16, f17, f18, f19, f20, f21, f22, f23, f25, f28, f29, f30, f31, f32, f35, f36, f37, f38, f39, f40, f41, f42, f43⟩) f2 _ := ⟨(ok__law_mix (P := l.prog) (w := w) (base := base) EO CA F2).up, b2, k2, PySem.W.mg_of X G a2⟩
  have d__law_draws : Def l.prog w K mg base "_law_draws" ["_law_script", "_law_turn", "_law_many"] 2 (sp__law_draws K ⟨C_Brackets, C_Stairs, C_Twins, C_SplitFamily, C_Family, f12, f13, f14, f15, f16, f17, f18, f19, f20, f21, f22, f23, f25, f28, f29, f30, f31, f32, f35, f36, f37, f38, f39, f40, f41, f42, f43⟩) f3 _ := ⟨(ok__law_draws (P := l.prog) (w := w) (base := base) EO CA F3 d__law_mix m_range m_len).up, b3, k3, PySem.W.mg_of X G a3⟩
  have d__law_text_by : Def l.prog w K mg base "_law_text_by" ["_law_script", "_law_size", "_law_turn"] 3 (sp__law_text_by K ⟨C_Brackets, C_Stairs, C_Twins, C_SplitFamily, C_Family, f12, f13, f14, f15, f16, f17, f18, f19, f20, f21, f22, f23, f25, f28, f29, f30, f31, f32, f35, f36, f37, f38, f39, f40, f41, f42, f43⟩) f4 _ := ⟨(ok__law_text_by (P := l.prog) (w := w) (base := base) EO CA F4 d__law_draws m_range).up, b4, k4, PySem.W.mg_of X G a4⟩
  have d__law_spoiled_text : Def l.prog w K mg base "_law_spoiled_text" ["_law_text", "_law_cell"] 2 (sp__law_spoiled_text K ⟨C_Brackets, C_Stairs, C_Twins, C_SplitFamily, C_Family, f12, f13, f14, f15, f16, f17, f18, f19, f20, f21, f22, f23, f25, f28, f29, f30, f31, f32, f35, f36, f37, f38, f39, f40, f41, f42, f43⟩) f5 _ := ⟨(ok__law_spoiled_text (P := l.prog) (w := w) (base := base) EO CA F5 d__law_mix m_len m_list).up, b5, k5, PySem.W.mg_of X G a5⟩
  have d__law_spoiled_row : Def l.prog w K mg base "_law_spoiled_row" ["_law_row", "_law_cell", "_law_far"] 2 (sp__law_spoiled_row K ⟨C_Brackets, C_Stairs, C_Twins, C_SplitFamily, C_Family, f12, f13, f14, f15, f16, f17, f18, f19, f20, f21, f22, f23, f25, f28, f29, f30, f31, f32, f35, f36, f37, f38, f39, f40, f41, f42, f43⟩) f6 _ := ⟨(ok__law_spoiled_row (P := l.prog) (w := w) (base := base) EO CA F6 d__law_mix m_len).up, b6, k6, PySem.W.mg_of X G a6⟩
  have d__law_twins_by : Def l.prog w K mg base "_law_twins_by" ["_law_text"] 1 (sp__law_twins_by K ⟨C_Brackets, C_Stairs, C_Twins, C_SplitFamily, C_Family, f12, f13, f14, f15, f16, f17, f18, f19, f20, f21, f22, f23, f25, f28, f29, f30, f31, f32, f35, f36, f37, f38, f39, f40, f41, f42, f43⟩) f7 _ := ⟨(ok__law_twins_by (P := l.prog) (w := w) (base := base) EO CA F7 m_range m_len).up, b7, k7, PySem.W.mg_of X G a7⟩
  have d__law_thing : Def l.prog w K mg base "_law_thing" ["_law_way", "_law_text"] 2 (sp__law_thing K ⟨C_Brackets, C_Stairs, C_Twins, C_SplitFamily, C_Family, f12, f13, f14, f15, f16, f17, f18, f19, f20, f21, f22, f23, f25, f28, f29, f30, f31, f32, f35, f36, f37, f38, f39, f40, f41, f42, f43⟩) f8 _ := ⟨(ok__law_thing (P := l.prog) (w := w) (base := base) EO CA F8 d__law_twins_by m_range m_len).up, b8, k8, PySem.W.mg_of X G a8⟩
  have d__law_closes : Def l.prog w K mg base "_law_closes" ["_law_text"] 1 (sp__law_closes K ⟨C_Brackets, C_Stairs, C_Twins, C_SplitFamily, C_Family, f12, f13, f14, f15, f16, f17, f18, f19, f20, f21, f22, f23, f25, f28, f29, f30, f31, f32, f35, f36, f37, f38, f39, f40, f41, f42, f43⟩) f9 _ := ⟨(ok__law_closes (P := l.prog) (w := w) (base := base) EO CA F9).up, b9, k9, PySem.W.mg_of X G a9⟩
  have d__law_is_stairs : Def l.prog w K mg base "_law_is_stairs" ["_law_row"] 1 (sp__law_is_stairs K ⟨C_Brackets, C_Stairs, C_Twins, C_SplitFamily, C_Family, f12, f13, f14, f15, f16, f17, f18, f19, f20, f21, f22, f23, f25, f28, f29, f30, f31, f32, f35, f36, f37, f38, f39, f40, f41, f42, f43⟩) f10 _ := ⟨(ok__law_is_stairs (P := l.prog) (w := w) (base := base) EO CA F10 m_range m_len).up, b10, k10, PySem.W.mg_of X G a10⟩
  have d_closes : Def l.prog w K mg base "closes" ["text"] 1 (sp_closes K ⟨C_Brackets, C_Stairs, C_Twins, C_SplitFamily, C_Family, f12, f13, f14, f15, f16, f17, f18, f19, f20, f21, f22, f23, f25, f28, f29, f30, f31, f32, f35, f36, f37, f38, f39, f40, f41, f42, f43⟩) f11 _ := ⟨(ok_closes (P := l.prog) (w := w) (base := base) EO CA F11).up, b11, k11, PySem.W.mg_of X G a11⟩
  have d_Brackets__is_one : MDef l.prog w K mg base ["self", "thing"] 2 (sp_Brackets__is_one K ⟨C_Brackets, C_Stairs, C_Twins, C_SplitFamily, C_Family, f12, f13, f14, f15, f16, f17, f18, f19, f20, f21, f22, f23, f25, f28, f29, f30, f31, f32, f35, f36, f37, f38, f39, f40, f41, f42, f43⟩) f12 _ := ⟨(ok_Brackets__is_one (P := l.prog) (w := w) (base := base) EO CA F12 d_closes).up, b12⟩
  have d_Brackets__Family_refuse_other : MDef l.prog w K mg base ["self", "thing"] 3 (sp_Brackets__Family_refuse_other K ⟨C_Brackets, C_Stairs, C_Twins, C_SplitFamily, C_Family, f12, f13, f14, f15, f16, f17, f18, f19, f20, f21, f22, f23, f25, f28, f29, f30, f31, f32, f35, f36, f37, f38, f39, f40, f41, f42, f43⟩ ⟨c_kin, c_size, c_number, c_thing, c_family, c_way, c_apart, c_mark, c_text, c_broken⟩) f13 _ := ⟨(ok_Brackets__Family_refuse_other (P := l.prog) (w := w) (base := base) EO CA F13 d_Brackets__is_one), b13⟩
  have d_Stairs__is_one : MDef l.prog w K mg base ["self", "thing"] 1 (sp_Stairs__is_one K ⟨C_Brackets, C_Stairs, C_Twins, C_SplitFamily, C_Family, f12, f13, f14, f15, f16, f17, f18, f19, f20, f21, f22, f23, f25, f28, f29, f30, f31, f32, f35, f36, f37, f38, f39, f40, f41, f42, f43⟩) f14 _ := ⟨(ok_Stairs__is_one (P := l.prog) (w := w) (base := base) EO CA F14 m_enumerate).up, b14⟩
  have d_Stairs__Family_refuse_other : MDef l.prog w K mg base ["self", "thing"] 2 (sp_Stairs__Family_refuse_other K ⟨C_Brackets, C_Stairs, C_Twins, C_SplitFamily, C_Family, f12, f13, f14, f15, f16, f17, f18, f19, f20, f21, f22, f23, f25, f28, f29, f30, f31, f32, f35, f36, f37, f38, f39, f40, f41, f42, f43⟩ ⟨c_kin, c_size, c_number, c_thing, c_family, c_way, c_apart, c_mark, c_text, c_broken⟩) f15 _ := ⟨(ok_Stairs__Family_refuse_other (P := l.prog) (w := w) (base := base) EO CA F15 d_Stairs__is_one), b15⟩
  have d_Twins__is_one : MDef l.prog w K mg base ["self", "thing"] 1 (sp_Twins__is_one K ⟨C_Brackets, C_Stairs, C_Twins, C_SplitFamily, C_Family, f12, f13, f14, f15, f16, f17, f18, f19, f20, f21, f22, f23, f25, f28, f29, f30, f31, f32, f35, f36, f37, f38, f39, f40, f41, f42, f43⟩) f16 _ := ⟨(ok_Twins__is_one (P := l.prog) (w := w) (base := base) EO CA F16).up, b16⟩
  have d_Twins__Family_refuse_other : MDef l.prog w K mg base ["self", "thing"] 2 (sp_Twins__Family_refuse_other K ⟨C_Brackets, C_Stairs, C_Twins, C_SplitFamily, C_Family, f12, f13, f14, f15, f16, f17, f18, f19, f20, f21, f22, f23, f25, f28, f29, f30, f31, f32, f35, f36, f37, f38, f39, f40, f41, f42, f43⟩ ⟨c_kin, c_size, c_number, c_thing, c_family, c_way, c_apart, c_mark, c_text, c_broken⟩) f17 _ := ⟨(ok_Twins__Family_refuse_other (P := l.prog) (w := w) (base := base) EO CA F17 d_Twins__is_one), b17⟩
  have d_Brackets__size_of : MDef l.prog w K mg base ["self", "thing"] 1 (sp_Brackets__size_of K ⟨C_Brackets, C_Stairs, C_Twins, C_SplitFamily, C_Family, f12, f13, f14, f15, f16, f17, f18, f19, f20, f21, f22, f23, f25, f28, f29, f30, f31, f32, f35, f36, f37, f38, f39, f40, f41, f42, f43⟩) f18 _ := ⟨(ok_Brackets__size_of (P := l.prog) (w := w) (base := base) EO CA F18).up, b18⟩
  have d_Stairs__size_of : MDef l.prog w K mg base ["self", "thing"] 1 (sp_Stairs__size_of K ⟨C_Brackets, C_Stairs, C_Twins, C_SplitFamily, C_Family, f12, f13, f14, f15, f16, f17, f18, f19, f20, f21, f22, f23, f25, f28, f29, f30, f31, f32, f35, f36, f37, f38, f39, f40, f41, f42, f43⟩) f19 _ := ⟨(ok_Stairs__size_of (P := l.prog) (w := w) (base := base) EO CA F19 m_len).up, b19⟩
  have d_Twins__size_of : MDef l.prog w K mg base ["self", "thing"] 1 (sp_Twins__size_of K ⟨C_Brackets, C_Stairs, C_Twins, C_SplitFamily, C_Family, f12, f13, f14, f15, f16, f17, f18, f19, f20, f21, f22, f23, f25, f28, f29, f30, f31, f32, f35, f36, f37, f38, f39, f40, f41, f42, f43⟩) f20 _ := ⟨(ok_Twins__size_of (P := l.prog) (w := w) (base := base) EO CA F20).up, b20⟩
  have d_Brackets__bare : MDef l.prog w K mg base ["self"] 1 (sp_Brackets__bare K ⟨C_Brackets, C_Stairs, C_Twins, C_SplitFamily, C_Family, f12, f13, f14, f15, f16, f17, f18, f19, f20, f21, f22, f23, f25, f28, f29, f30, f31, f32, f35, f36, f37, f38, f39, f40, f41, f42, f43⟩) f21 _ := ⟨(ok_Brackets__bare (P := l.prog) (w := w) (base := base) EO CA F21).up, b21⟩
  have d_Stairs__bare : MDef l.prog w K mg base ["self"] 1 (sp_Stairs__bare K ⟨C_Brackets, C_Stairs, C_Twins, C_SplitFamily, C_Family, f12, f13, f14, f15, f16, f17, f18, f19, f20, f21, f22, f23, f25, f28, f29, f30, f31, f32, f35, f36, f37, f38, f39, f40, f41, f42, f43⟩) f22 _ := ⟨(ok_Stairs__bare (P := l.prog) (w := w) (base := base) EO CA F22).up, b22⟩
  have d_Twins__bare : MDef l.prog w K mg base ["self"] 1 (sp_Twins__bare K ⟨C_Brackets, C_Stairs, C_Twins, C_SplitFamily, C_Family, f12, f13, f14, f15, f16, f17, f18, f19, f20, f21, f22, f23, f25, f28, f29, f30, f31, f32, f35, f36, f37, f38, f39, f40, f41, f42, f43⟩) f23 _ := ⟨(ok_Twins__bare (P := l.prog) (w := w) (base := base) EO CA F23).up, b23⟩
  have d_first_close : Def l.prog w K mg base "first_close" ["text"] 1 (sp_first_close K ⟨C_Brackets, C_Stairs, C_Twins, C_SplitFamily, C_Family, f12, f13, f14, f15, f16, f17, f18, f19, f20, f21, f22, f23, f25, f28, f29, f30, f31, f32, f35, f36, f37, f38, f39, f40, f41, f42, f43⟩) f24 _ := ⟨(ok_first_close (P := l.prog) (w := w) (base := base) EO CA F24).up, b24, k24, PySem.W.mg_of X G a24⟩
  have d_Brackets__parted : MDef l.prog w K mg base ["self", "thing"] 2 (sp_Brackets__parted K ⟨C_Brackets, C_Stairs, C_Twins, C_SplitFamily, C_Family, f12, f13, f14, f15, f16, f17, f18, f19, f20, f21, f22, f23, f25, f28, f29, f30, f31, f32, f35, f36, f37, f38, f39, f40, f41, f42, f43⟩) f25 _ := ⟨(ok_Brackets__parted (P := l.prog) (w := w) (base := base) EO CA F25 d_first_close).up, b25⟩
  have d_right_begin : Def l.prog w K mg base "right_begin" ["stairs"] 1 (sp_right_begin K ⟨C_Brackets, C_Stairs, C_Twins, C_SplitFamily, C_Family, f12, f13, f14, f15, f16, f17, f18, f19, f20, f21, f22, f23, f25, f28, f29, f30, f31, f32, f35, f36, f37, f38, f39, f40, f41, f42, f43⟩) f26 _ := ⟨(ok_right_begin (P := l.prog) (w := w) (base := base) EO CA F26 m_range m_len).up, b26, k26, PySem.W.mg_of X G a26⟩
  have d_raised_by : Def l.prog w K mg base "raised_by" ["numbers", "step"] 1 (sp_raised_by K ⟨C_Brackets, C_Stairs, C_Twins, C_SplitFamily, C_Family, f12, f13, f14, f15, f16, f17, f18, f19, f20, f21, f22, f23, f25, f28, f29, f30, f31, f32, f35, f36, f37, f38, f39, f40, f41, f42, f43⟩) f27 _ := ⟨(ok_raised_by (P := l.prog) (w := w) (base := base) EO CA F27).up, b27, k27, PySem.W.mg_of X G a27⟩
  have d_Stairs__parted : MDef l.prog w K mg base ["self", "thing"] 2 (sp_Stairs__parted K ⟨C_Brackets, C_Stairs, C_Twins, C_SplitFamily, C_Family, f12, f13, f14, f15, f16, f17, f18, f19, f20, f21, f22, f23, f25, f28, f29, f30, f31, f32, f35, f36, f37, f38, f39, f40, f41, f42, f43⟩) f28 _ := ⟨(ok_Stairs__parted (P := l.prog) (w := w) (base := base) EO CA F28 d_right_begin d_raised_by).up, b28⟩
  have d_Twins__parted : MDef l.prog w K mg base ["self", "thing"] 1 (sp_Twins__parted K ⟨C_Brackets, C_Stairs, C_Twins, C_SplitFamily, C_Family, f12, f13, f14, f15, f16, f17, f18, f19, f20, f21, f22, f23, f25, f28, f29, f30, f31, f32, f35, f36, f37, f38, f39, f40, f41, f42, f43⟩) f29 _ := ⟨(ok_Twins__parted (P := l.prog) (w := w) (base := base) EO CA F29).up, b29⟩
  have d_Brackets__joined : MDef l.prog w K mg base ["self", "left", "right"] 1 (sp_Brackets__joined K ⟨C_Brackets, C_Stairs, C_Twins, C_SplitFamily, C_Family, f12, f13, f14, f15, f16, f17, f18, f19, f20, f21, f22, f23, f25, f28, f29, f30, f31, f32, f35, f36, f37, f38, f39, f40, f41, f42, f43⟩) f30 _ := ⟨(ok_Brackets__joined (P := l.prog) (w := w) (base := base) EO CA F30).up, b30⟩
  have d_Stairs__joined : MDef l.prog w K mg base ["self", "left", "right"] 2 (sp_Stairs__joined K ⟨C_Brackets, C_Stairs, C_Twins, C_SplitFamily, C_Family, f12, f13, f14, f15, f16, f17, f18, f19, f20, f21, f22, f23, f25, f28, f29, f30, f31, f32, f35, f36, f37, f38, f39, f40, f41, f42, f43⟩) f31 _ := ⟨(ok_Stairs__joined (P := l.prog) (w := w) (base := base) EO CA F31 d_raised_by m_len).up, b31⟩
  have d_Twins__joined : MDef l.prog w K mg base ["self", "left", "right"] 1 (sp_Twins__joined K ⟨C_Brackets, C_Stairs, C_Twins, C_SplitFamily, C_Family, f12, f13, f14, f15, f16, f17, f18, f19, f20, f21, f22, f23, f25, f28, f29, f30, f31, f32, f35, f36, f37, f38, f39, f40, f41, f42, f43⟩) f32 _ := ⟨(ok_Twins__joined (P := l.prog) (w := w) (base := base) EO CA F32).up, b32⟩
  have r_led_by_parts : ∀ n, FnOk l.prog w K mg base (CX1 l.prog w) (2 + n + 1) f33 _ ["one", "other", "thing"] (sp_led_by_parts K ⟨C_Brackets, C_Stairs, C_Twins, C_SplitFamily, C_Family, f12, f13, f14, f15, f16, f17, f18, f19, f20, f21, f22, f23, f25, f28, f29, f30, f31, f32, f35, f36, f37, f38, f39, f40, f41, f42, f43⟩ n) := rec_ok fun n q => ok_led_by_parts (P := l.prog) (w := w) (base := base) EO CA F33 d_Brackets__size_of d_Stairs__size_of d_Twins__size_of d_Brackets__bare d_Stairs__bare d_Twins__bare d_Brackets__parted d_Stairs__parted d_Twins__parted d_Brackets__joined d_Stairs__joined d_Twins__joined n ⟨below_ok q, b33, k33, PySem.W.mg_of X G a33⟩
  have d_led_by_parts : Def l.prog w K mg base "led_by_parts" ["one", "other", "thing"] 44 (spA_led_by_parts K ⟨C_Brackets, C_Stairs, C_Twins, C_SplitFamily, C_Family, f12, f13, f14, f15, f16, f17, f18, f19, f20, f21, f22, f23, f25, f28, f29, f30, f31, f32, f35, f36, f37, f38, f39, f40, f41, f42, f43⟩) f33 _ := ⟨((below_ok (L := 2) (N := 41) fun m _ => r_led_by_parts m).mono (by decide)), b33, k33, PySem.W.mg_of X G a33⟩
  have d_by_parts : Def l.prog w K mg base "by_parts" ["one", "other", "thing"] 45 (sp_by_parts K ⟨C_Brackets, C_Stairs, C_Twins, C_SplitFamily, C_Family, f12, f13, f14, f15, f16, f17, f18, f19, f20, f21, f22, f23, f25, f28, f29, f30, f31, f32, f35, f36, f37, f38, f39, f40, f41, f42, f43⟩ ⟨c_kin, c_size, c_number, c_thing, c_family, c_way, c_apart, c_mark, c_text, c_broken⟩) f34 _ := ⟨(ok_by_parts (P := l.prog) (w := w) (base := base) EO CA F34 d_Brackets__Family_refuse_other d_Stairs__Family_refuse_other d_Twins__Family_refuse_other d_led_by_parts), b34, k34, PySem.W.mg_of X G a34⟩
  have d_Brackets__Family___init__ : MDef l.prog w K mg base ["self", "word", "least"] 1 (sp_Brackets__Family___init__ K ⟨C_Brackets, C_Stairs, C_Twins, C_SplitFamily, C_Family, f12, f13, f14, f15, f16, f17, f18, f19, f20, f21, f22, f23, f25, f28, f29, f30, f31, f32, f35, f36, f37, f38, f39, f40, f41, f42, f43⟩) f35 _ := ⟨(ok_Brackets__Family___init__ (P := l.prog) (w := w) (base := base) EO CA F35).up, b35⟩
  have d_Brackets__SplitFamily___init__ : MDef l.prog w K mg base ["self", "word"] 3 (sp_Brackets__SplitFamily___init__ K ⟨C_Brackets, C_Stairs, C_Twins, C_SplitFamily, C_Family, f12, f13, f14, f15, f16, f17, f18, f19, f20, f21, f22, f23, f25, f28, f29, f30, f31, f32, f35, f36, f37, f38, f39, f40, f41, f42, f43⟩) f36 _ := ⟨(ok_Brackets__SplitFamily___init__ (P := l.prog) (w := w) (base := base) EO CA F36 d_Brackets__Family___init__).up, b36⟩
  have d_Brackets____init__ : MDef l.prog w K mg base ["self"] 5 (sp_Brackets____init__ K ⟨C_Brackets, C_Stairs, C_Twins, C_SplitFamily, C_Family, f12, f13, f14, f15, f16, f17, f18, f19, f20, f21, f22, f23, f25, f28, f29, f30, f31, f32, f35, f36, f37, f38, f39, f40, f41, f42, f43⟩) f37 _ := ⟨(ok_Brackets____init__ (P := l.prog) (w := w) (base := base) EO CA F37 d_Brackets__SplitFamily___init__).up, b37⟩
  have d_Stairs__Family___init__ : MDef l.prog w K mg base ["self", "word", "least"] 1 (sp_Stairs__Family___init__ K ⟨C_Brackets, C_Stairs, C_Twins, C_SplitFamily, C_Family, f12, f13, f14, f15, f16, f17, f18, f19, f20, f21, f22, f23, f25, f28, f29, f30, f31, f32, f35, f36, f37, f38, f39, f40, f41, f42, f43⟩) f38 _ := ⟨(ok_Stairs__Family___init__ (P := l.prog) (w := w) (base := base) EO CA F38).up, b38⟩
  have d_Stairs__SplitFamily___init__ : MDef l.prog w K mg base ["self", "word"] 3 (sp_Stairs__SplitFamily___init__ K ⟨C_Brackets, C_Stairs, C_Twins, C_SplitFamily, C_Family, f12, f13, f14, f15, f16, f17, f18, f19, f20, f21, f22, f23, f25, f28, f29, f30, f31, f32, f35, f36, f37, f38, f39, f40, f41, f42, f43⟩) f39 _ := ⟨(ok_Stairs__SplitFamily___init__ (P := l.prog) (w := w) (base := base) EO CA F39 d_Stairs__Family___init__).up, b39⟩
  have d_Stairs____init__ : MDef l.prog w K mg base ["self"] 5 (sp_Stairs____init__ K ⟨C_Brackets, C_Stairs, C_Twins, C_SplitFamily, C_Family, f12, f13, f14, f15, f16, f17, f18, f19, f20, f21, f22, f23, f25, f28, f29, f30, f31, f32, f35, f36, f37, f38, f39, f40, f41, f42, f43⟩) f40 _ := ⟨(ok_Stairs____init__ (P := l.prog) (w := w) (base := base) EO CA F40 d_Stairs__SplitFamily___init__).up, b40⟩
  have d_Twins__Family___init__ : MDef l.prog w K mg base ["self", "word", "least"] 1 (sp_Twins__Family___init__ K ⟨C_Brackets, C_Stairs, C_Twins, C_SplitFamily, C_Family, f12, f13, f14, f15, f16, f17, f18, f19, f20, f21, f22, f23, f25, f28, f29, f30, f31, f32, f35, f36, f37, f38, f39, f40, f41, f42, f43⟩) f41 _ := ⟨(ok_Twins__Family___init__ (P := l.prog) (w := w) (base := base) EO CA F41).up, b41⟩
  have d_Twins__SplitFamily___init__ : MDef l.prog w K mg base ["self", "word"] 3 (sp_Twins__SplitFamily___init__ K ⟨C_Brackets, C_Stairs, C_Twins, C_SplitFamily, C_Family, f12, f13, f14, f15, f16, f17, f18, f19, f20, f21, f22, f23, f25, f28, f29, f30, f31, f32, f35, f36, f37, f38, f39, f40, f41, f42, f43⟩) f42 _ := ⟨(ok_Twins__SplitFamily___init__ (P := l.prog) (w := w) (base := base) EO CA F42 d_Twins__Family___init__).up, b42⟩
  have d_Twins____init__ : MDef l.prog w K mg base ["self"] 5 (sp_Twins____init__ K ⟨C_Brackets, C_Stairs, C_Twins, C_SplitFamily, C_Family, f12, f13, f14, f15, f16, f17, f18, f19, f20, f21, f22, f23, f25, f28, f29, f30, f31, f32, f35, f36, f37, f38, f39, f40, f41, f42, f43⟩) f43 _ := ⟨(ok_Twins____init__ (P := l.prog) (w := w) (base := base) EO CA F43 d_Twins__SplitFamily___init__).up, b43⟩
  have d__law_kin : Def l.prog w K mg base "_law_kin" ["_law_way"] 7 (sp__law_kin K ⟨C_Brackets, C_Stairs, C_Twins, C_SplitFamily, C_Family, f12, f13, f14, f15, f16, f17, f18, f19, f20, f21, f22, f23, f25, f28, f29, f30, f31, f32, f35, f36, f37, f38, f39, f40, f41, f42, f43⟩) f44 _ := ⟨(ok__law_kin (P := l.prog) (w := w) (base := base) EO CA F44 d_Brackets____init__ d_Stairs____init__ d_Twins____init__).up, b44, k44, PySem.W.mg_of X G a44⟩
  have d__law_classes : Def l.prog w K mg base "_law_classes" ["_law_error"] 1 (sp__law_classes K ⟨C_Brackets, C_Stairs, C_Twins, C_SplitFamily, C_Family, f12, f13, f14, f15, f16, f17, f18, f19, f20, f21, f22, f23, f25, f28, f29, f30, f31, f32, f35, f36, f37, f38, f39, f40, f41, f42, f43⟩ ⟨c_kin, c_size, c_number, c_thing, c_family, c_way, c_apart, c_mark, c_text, c_broken⟩) f45 _ := ⟨(ok__law_classes (P := l.prog) (w := w) (base := base) EO CA F45 m_isinstance m_ValueError).up, b45, k45, PySem.W.mg_of X G a45⟩
  have d__law_refused : Def l.prog w K mg base "_law_refused" ["_law_way", "_law_other", "_law_thing_here"] 46 (sp__law_refused K ⟨C_Brackets, C_Stairs, C_Twins, C_SplitFamily, C_Family, f12, f13, f14, f15, f16, f17, f18, f19, f20, f21, f22, f23, f25, f28, f29, f30, f31, f32, f35, f36, f37, f38, f39, f40, f41, f42, f43⟩ ⟨c_kin, c_size, c_number, c_thing, c_family, c_way, c_apart, c_mark, c_text, c_broken⟩) f46 _ := ⟨(ok__law_refused (P := l.prog) (w := w) (base := base) EO CA F46 d_by_parts d__law_kin d__law_classes).up, b46, k46, PySem.W.mg_of X G a46⟩
  have d__law_whole : Def l.prog w K mg base "_law_whole" ["_law_found"] 1 (sp__law_whole K ⟨C_Brackets, C_Stairs, C_Twins, C_SplitFamily, C_Family, f12, f13, f14, f15, f16, f17, f18, f19, f20, f21, f22, f23, f25, f28, f29, f30, f31, f32, f35, f36, f37, f38, f39, f40, f41, f42, f43⟩) f47 _ := ⟨(ok__law_whole (P := l.prog) (w := w) (base := base) EO CA F47 m_isinstance m_int m_bool).up, b47, k47, PySem.W.mg_of X G a47⟩
  have d__law_numbers : Def l.prog w K mg base "_law_numbers" ["_law_found", "_law_due"] 2 (sp__law_numbers K ⟨C_Brackets, C_Stairs, C_Twins, C_SplitFamily, C_Family, f12, f13, f14, f15, f16, f17, f18, f19, f20, f21, f22, f23, f25, f28, f29, f30, f31, f32, f35, f36, f37, f38, f39, f40, f41, f42, f43⟩) f48 _ := ⟨(ok__law_numbers (P := l.prog) (w := w) (base := base) EO CA F48 d__law_whole m_isinstance m_list m_len m_range).up, b48, k48, PySem.W.mg_of X G a48⟩
  have r__law_same_twins : ∀ n, FnOk l.prog w K mg base (CX1 l.prog w) (0 + n + 1) f49 _ ["_law_found", "_law_due"] (sp__law_same_twins K ⟨C_Brackets, C_Stairs, C_Twins, C_SplitFamily, C_Family, f12, f13, f14, f15, f16, f17, f18, f19, f20, f21, f22, f23, f25, f28, f29, f30, f31, f32, f35, f36, f37, f38, f39, f40, f41, f42, f43⟩ n) := rec_ok fun n q => ok__law_same_twins (P := l.prog) (w := w) (base := base) EO CA F49 m_isinstance m_tuple m_len m_range n ⟨below_ok q, b49, k49, PySem.W.mg_of X G a49⟩
  have d__law_same_twins : Def l.prog w K mg base "_law_same_twins" ["_law_found", "_law_due"] 42 (spA__law_same_twins K ⟨C_Brackets, C_Stairs, C_Twins, C_SplitFamily, C_Family, f12, f13, f14, f15, f16, f17, f18, f19, f20, f21, f22, f23, f25, f28, f29, f30, f31, f32, f35, f36, f37, f38, f39, f40, f41, f42, f43⟩) f49 _ := ⟨((below_ok (L := 0) (N := 41) fun m _ => r__law_same_twins m).mono (by decide)), b49, k49, PySem.W.mg_of X G a49⟩
  have d__law_same : Def l.prog w K mg base "_law_same" ["_law_way", "_law_found", "_law_due"] 43 (sp__law_same K ⟨C_Brackets, C_Stairs, C_Twins, C_SplitFamily, C_Family, f12, f13, f14, f15, f16, f17, f18, f19, f20, f21, f22, f23, f25, f28, f29, f30, f31, f32, f35, f36, f37, f38, f39, f40, f41, f42, f43⟩) f50 _ := ⟨(ok__law_same (P := l.prog) (w := w) (base := base) EO CA F50 d__law_numbers d__law_same_twins m_isinstance m_str).up, b50, k50, PySem.W.mg_of X G a50⟩
  exact ok_law (P := l.prog) (w := w) (base := base) EO CA F51 d__law_cell_at d__law_text_by d__law_spoiled_text d__law_spoiled_row d__law_thing d__law_closes d__law_is_stairs d__law_refused d_by_parts d__law_kin d__law_same m_len

theorem walk {l : PySem.W.OpenLaw} {q : Program} {loose : List Str} {XP : (Str → Option Value) → Heap → Prop} {YP : World → Heap → Prop} {d : DefRec} {K : Params → PySem.W.Frag} (hn : l.most = some 63) (hdf : d.params.defaults = [])
    (hY : ∀ (w : World) (h : Heap), YP w h → (K w.params).In h)
    (F : ∀ (w : World) (mg : Str → Option Value) (fa : Addr) (h : Heap), (K w.params).In h → h.Ns mainGlobals mg → mg d.name = some (.ref fa) →
      ∃ fd : FuncData, (∀ (s : Shared) (u : Value), BindsTo s fd ⟨[u], []⟩ [("_law_script", u)]) ∧ ∀ base : Heap, (K w.params).In base → base.Ns mainGlobals mg → FnOk l.prog w (K w.params) mg base CX0 47 fa fd ["_law_script"] (spL (K w.params))) :
    PySem.W.WalkO q loose XP YP l.row.toRowW d [] (fun f vs => PySem.call f vs) :=
  L2.walk_of (n := 63) (k := 47) (x := "_law_script") (CX := fun _ => CX0) (sp := fun w => spL (K w.params)) hn (by decide) hdf ⟨rfl, by decide, by decide⟩ hY F (fun _ _ a ns hl _ hS => ⟨a, ns, rfl, hS, hl, fun _ => rfl⟩) fun _ _ _ _ _ z => z
end Ck
open L2
namespace Ck
open PySem PySem.W PySem.Calls PyProof.Rows
noncomputable def hB : List Stmt := behindTheImports PySem.Challenge.pw_countkin_k11_led_by_parts
noncomputable def hE : Env := { scope := PySem.Challenge.pw_countkin_k11_led_by_parts.main.scope, locals := mainNs, globals := mainNs, cells := [], code := (.ref 13), frame := some 14 }
noncomputable def hC : Code := .body hB hE
noncomputable def hTree (P : Params) : BT := (.node (boot_o_0 P) (.node (boot_o_1 P) (.node (boot_o_3 P) (.node (boot_o_7 P) .nil .nil) (.node ⟨(.type "tuple"), none, (.seq #[] 0), #[]⟩ .nil .nil)) (.node (boot_o_5 P) (.node (boot_o_9 P) .nil .nil) (.node ⟨(.type "code"), none, (.fields #[(.str "<module>" 182), (.str "<module>" 183), (.str "/claim/cut.py" 184), (.int 1 0), (.int 0 0), (.int 0 0), (.int 0 0), (.int 0 0), (.ref 11), (.bool false), (.int 181 0), (.ref 12), .none, .none, .none, .none, (.int 185 0), (.int 1 0), (.str "/claim/cut.py" 186)]), #[]⟩ .nil .nil))) (.node (boot_o_2 P) (.node (boot_o_4 P) (.node (boot_o_8 P) .nil .nil) (.node ⟨.none, none, (.fields #[]), #[]⟩ .nil .nil)) (.node (boot_o_6 P) (.node (boot_o_10 P) .nil .nil) (.node ⟨(.type "frame"), none, .plain, #[(some (.ref 13)), (some (.ref 3)), (some (.ref 3)), none, (some (.str "__main__" 164)), none, (some (.ref 0))]⟩ .nil .nil))))
noncomputable def hS (w : World) (os : OsState) : SharedT := ⟨hTree w.params, 15, ({} : Life), Array.mk [], ⟨0, 0, 0, 0⟩, 187, os⟩
noncomputable def hQ : Program := { PySem.Challenge.pw_countkin_k11_led_by_parts with main := { PySem.Challenge.pw_countkin_k11_led_by_parts.main with body := [top 46] } }
noncomputable def hL : List Str := (Str.ofString "_wall" :: Str.ofString "KinError" :: Str.ofString "NoSize" :: Str.ofString "NoNumber" :: Str.ofString "NoThing" :: Str.ofString "NoFamily" :: Str.ofString "NoWay" :: Str.ofString "Apart" :: Str.ofString "NoMark" :: Str.ofString "NoText" :: Str.ofString "Broken" :: Str.ofString "Family" :: Str.ofString "SplitFamily" :: Str.ofString "by_parts" :: Str.ofString "led_by_parts" :: Str.ofString "raised_by" :: Str.ofString "closes" :: Str.ofString "Brackets" :: Str.ofString "first_close" :: Str.ofString "Stairs" :: Str.ofString "right_begin" :: Str.ofString "Twins" :: Str.ofString "_law_cell_at" :: Str.ofString "_law_whole" :: Str.ofString "_law_mix" :: Str.ofString "_law_draws" :: Str.ofString "_law_text_by" :: Str.ofString "_law_numbers" :: Str.ofString "_law_twins_by" :: Str.ofString "_law_same_twins" :: Str.ofString "_law_classes" :: Str.ofString "_law_closes" :: Str.ofString "_law_is_stairs" :: Str.ofString "_law_spoiled_text" :: Str.ofString "_law_spoiled_row" :: Str.ofString "_law_kin" :: Str.ofString "_law_thing" :: Str.ofString "_law_same" :: Str.ofString "_law_refused" :: [])
noncomputable def hK : Params → Frag := fun P => (nat_lit 2, ⟨.none, none, (.dict #[] 0), #[]⟩) :: (nat_lit 3, ⟨(.type "dict"), none, (.dict (List.toArray (⟨PyData.keyHash P "__name__", .str "__name__" 165, (.str "law_countkin_k11_led_by_parts" 832)⟩ :: ⟨PyData.keyHash P "__doc__", .str "__doc__" 166, .none⟩ :: ⟨PyData.keyHash P "__package__", .str "__package__" 167, .none⟩ :: ⟨PyData.keyHash P "__loader__", .str "__loader__" 168, (.builtin "__main__.__loader__#opaque")⟩ :: ⟨PyData.keyHash P "__spec__", .str "__spec__" 169, .none⟩ :: ⟨PyData.keyHash P "__annotations__", .str "__annotations__" 170, (.ref 6)⟩ :: ⟨PyData.keyHash P "__builtins__", .str "__builtins__" 171, (.ref 4)⟩ :: ⟨PyData.keyHash P "__file__", .str "__file__" 173, (.str "/claim/cut.py" 172)⟩ :: ⟨PyData.keyHash P "__cached__", .str "__cached__" 174, .none⟩ :: ⟨PyData.keyHash P "_wall", .str "_wall" 193, (.ref 21)⟩ :: ⟨PyData.keyHash P "KinError", .str "KinError" 213, (.ref 31)⟩ :: ⟨PyData.keyHash P "NoSize", .str "NoSize" 229, (.ref 44)⟩ :: ⟨PyData.keyHash P "NoNumber", .str "NoNumber" 245, (.ref 56)⟩ :: ⟨PyData.keyHash P "NoThing", .str "NoThing" 261, (.ref 68)⟩ :: ⟨PyData.keyHash P "NoFamily", .str "NoFamily" 277, (.ref 80)⟩ :: ⟨PyData.keyHash P "NoWay", .str "NoWay" 293, (.ref 92)⟩ :: ⟨PyData.keyHash P "Apart", .str "Apart" 309, (.ref 104)⟩ :: ⟨PyData.keyHash P "NoMark", .str "NoMark" 325, (.ref 116)⟩ :: ⟨PyData.keyHash P "NoText", .str "NoText" 341, (.ref 128)⟩ :: ⟨PyData.keyHash P "Broken", .str "Broken" 366, (.ref 147)⟩ :: ⟨PyData.keyHash P "Family", .str "Family" 481, (.ref 236)⟩ :: ⟨PyData.keyHash P "SplitFamily", .str "SplitFamily" 573, (.ref 313)⟩ :: ⟨PyData.keyHash P "by_parts", .str "by_parts" 582, (.ref 322)⟩ :: ⟨PyData.keyHash P "led_by_parts", .str "led_by_parts" 594, (.ref 329)⟩ :: ⟨PyData.keyHash P "raised_by", .str "raised_by" 602, (.ref 334)⟩ :: ⟨PyData.keyHash P "closes", .str "closes" 613, (.ref 341)⟩ :: ⟨PyData.keyHash P "Brackets", .str "Brackets" 679, (.ref 393)⟩ :: ⟨PyData.keyHash P "first_close", .str "first_close" 688, (.ref 402)⟩ :: ⟨PyData.keyHash P "Stairs", .str "Stairs" 755, (.ref 454)⟩ :: ⟨PyData.keyHash P "right_begin", .str "right_begin" 763, (.ref 463)⟩ :: ⟨PyData.keyHash P "Twins", .str "Twins" 831, (.ref 515)⟩ :: ⟨PyData.keyHash P "_law_cell_at", .str "_law_cell_at" 841, (.ref 524)⟩ :: ⟨PyData.keyHash P "_law_whole", .str "_law_whole" 848, (.ref 531)⟩ :: ⟨PyData.keyHash P "_law_mix", .str "_law_mix" 857, (.ref 538)⟩ :: ⟨PyData.keyHash P "_law_draws", .str "_law_draws" 863, (.ref 543)⟩ :: ⟨PyData.keyHash P "_law_text_by", .str "_law_text_by" 879, (.ref 550)⟩ :: ⟨PyData.keyHash P "_law_numbers", .str "_law_numbers" 888, (.ref 557)⟩ :: ⟨PyData.keyHash P "_law_twins_by", .str "_law_twins_by" 898, (.ref 564)⟩ :: ⟨PyData.keyHash P "_law_same_twins", .str "_law_same_twins" 907, (.ref 571)⟩ :: ⟨PyData.keyHash P "_law_classes", .str "_law_classes" 915, (.ref 578)⟩ :: ⟨PyData.keyHash P "_law_closes", .str "_law_closes" 924, (.ref 585)⟩ :: ⟨PyData.keyHash P "_law_is_stairs", .str "_law_is_stairs" 932, (.ref 592)⟩ :: ⟨PyData.keyHash P "_law_spoiled_text", .str "_law_spoiled_text" 945, (.ref 599)⟩ :: ⟨PyData.keyHash P "_law_spoiled_row", .str "_law_spoiled_row" 956, (.ref 606)⟩ :: ⟨PyData.keyHash P "_law_kin", .str "_law_kin" 963, (.ref 613)⟩ :: ⟨PyData.keyHash P "_law_thing", .str "_law_thing" 969, (.ref 618)⟩ :: ⟨PyData.keyHash P "_law_same", .str "_law_same" 978, (.ref 625)⟩ :: ⟨PyData.keyHash P "_law_refused", .str "_law_refused" 989, (.ref 632)⟩ :: ⟨PyData.keyHash P "law", .str "law" 1002, (.ref 639)⟩ :: [])) 49), #[]⟩) :: (nat_lit 15, ⟨(.type "tuple"), none, (.seq #[] 0), #[]⟩) :: (nat_lit 17, ⟨(.type "tuple"), none, (.seq #[(.str "k" 190)] 0), #[]⟩) :: (nat_lit 18, ⟨(.type "tuple"), none, (.seq #[] 0), #[]⟩) :: (nat_lit 20, ⟨(.type "code"), none, (.fields #[(.str "_wall" 187), (.str "_wall" 188), (.str "/claim/cut.py" 189), (.int 1 0), (.int 1 0), (.int 0 0), (.int 0 0), (.int 3 0), (.ref 15), (.bool true), (.int 181 0), (.ref 16), .none, (.ref 17), (.ref 18), (.ref 19), (.int 191 0), (.int 1 0), (.str "/claim/cut.py" 192)]), #[]⟩) :: (nat_lit 21, ⟨(.type "function"), none, (.func (fnOf "_wall" "_wall" (defArgs (top 0)) (defBody (top 0)) (defScope (top 0)) .none .none .none (.str "__main__" 164) none (.ref 20) .none)), #[]⟩) :: (nat_lit 22, ⟨(.type "tuple"), none, (.seq #[(.type "ValueError")] 0), #[]⟩) :: (nat_lit 29, ⟨(.type "tuple"), none, (.seq #[] 0), #[]⟩) :: (nat_lit 30, ⟨(.type "dict"), none, (.dict #[⟨PyData.keyHash P "__module__", .str "__module__" 203, (.str "countkin.errors" 194)⟩, ⟨PyData.keyHash P "__firstlineno__", .str "__firstlineno__" 207, (.int 5 206)⟩, ⟨PyData.keyHash P "__static_attributes__", .str "__static_attributes__" 208, (.ref 29)⟩, ⟨PyData.keyHash P "__weakref__", .str "__weakref__" 210, (.ref 32)⟩, ⟨PyData.keyHash P "__doc__", .str "__doc__" 211, .none⟩] 3), #[]⟩) :: (nat_lit 31, ⟨(.type "type"), none, (.cls ⟨"KinError", [(.type "ValueError")], [(.ref 31), (.type "ValueError"), (.type "Exception"), (.type "BaseException"), (.type "object")], 30, "KinError", true, [], [(.ref 44), (.ref 56), (.ref 68), (.ref 80), (.ref 92), (.ref 104), (.ref 116), (.ref 128), (.ref 147)], false, none, false⟩), #[(some (.ref 22)), none, (some (.str "KinError" 196)), (some (.str "KinError" 204)), (some (.builtin "ValueError.__new__")), (some (.bool true))]⟩) :: (nat_lit 32, ⟨(.type "getset_descriptor"), none, (.fields #[(.str "__weakref__" 209), (.ref 31), (.builtin "ExceptionGroup.__weakref__"), .none]), #[]⟩) :: (nat_lit 35, ⟨(.type "tuple"), none, (.seq #[(.ref 31)] 0), #[]⟩) :: (nat_lit 42, ⟨(.type "tuple"), none, (.seq #[] 0), #[]⟩) :: (nat_lit 43, ⟨(.type "dict"), none, (.dict #[⟨PyData.keyHash P "__module__", .str "__module__" 221, (.str "countkin.errors" 194)⟩, ⟨PyData.keyHash P "__firstlineno__", .str "__firstlineno__" 225, (.int 7 224)⟩, ⟨PyData.keyHash P "__static_attributes__", .str "__static_attributes__" 226, (.ref 42)⟩, ⟨PyData.keyHash P "__doc__", .str "__doc__" 227, .none⟩] 2), #[]⟩) :: (nat_lit 44, ⟨(.type "type"), none, (.cls ⟨"NoSize", [(.ref 31)], [(.ref 44), (.ref 31), (.type "ValueError"), (.type "Exception"), (.type "BaseException"), (.type "object")], 43, "NoSize", true, [], [], false, none, false⟩), #[(some (.ref 35)), none, (some (.str "NoSize" 214)), (some (.str "NoSize" 222)), (some (.builtin "ValueError.__new__")), (some (.bool true))]⟩) :: (nat_lit 47, ⟨(.type "tuple"), none, (.seq #[(.ref 31)] 0), #[]⟩) :: (nat_lit 54, ⟨(.type "tuple"), none, (.seq #[] 0), #[]⟩) :: (nat_lit 55, ⟨(.type "dict"), none, (.dict #[⟨PyData.keyHash P "__module__", .str "__module__" 237, (.str "countkin.errors" 194)⟩, ⟨PyData.keyHash P "__firstlineno__", .str "__firstlineno__" 241, (.int 9 240)⟩, ⟨PyData.keyHash P "__static_attributes__", .str "__static_attributes__" 242, (.ref 54)⟩, ⟨PyData.keyHash P "__doc__", .str "__doc__" 243, .none⟩] 2), #[]⟩) :: (nat_lit 56, ⟨(.type "type"), none, (.cls ⟨"NoNumber", [(.ref 31)], [(.ref 56), (.ref 31), (.type "ValueError"), (.type "Exception"), (.type "BaseException"), (.type "object")], 55, "NoNumber", true, [], [], false, none, false⟩), #[(some (.ref 47)), none, (some (.str "NoNumber" 230)), (some (.str "NoNumber" 238)), (some (.builtin "ValueError.__new__")), (some (.bool true))]⟩) :: (nat_lit 59, ⟨(.type "tuple"), none, (.seq #[(.ref 31)] 0), #[]⟩) :: (nat_lit 66, ⟨(.type "tuple"), none, (.seq #[] 0), #[]⟩) :: (nat_lit 67, ⟨(.type "dict"), none, (.dict #[⟨PyData.keyHash P "__module__", .str "__module__" 253, (.str "countkin.errors" 194)⟩, ⟨PyData.keyHash P "__firstlineno__", .str "__firstlineno__" 257, (.int 11 256)⟩, ⟨PyData.keyHash P "__static_attributes__", .str "__static_attributes__" 258, (.ref 66)⟩, ⟨PyData.keyHash P "__doc__", .str "__doc__" 259, .none⟩] 2), #[]⟩) :: (nat_lit 68, ⟨(.type "type"), none, (.cls ⟨"NoThing", [(.ref 31)], [(.ref 68), (.ref 31), (.type "ValueError"), (.type "Exception"), (.type "BaseException"), (.type "object")], 67, "NoThing", true, [], [], false, none, false⟩), #[(some (.ref 59)), none, (some (.str "NoThing" 246)), (some (.str "NoThing" 254)), (some (.builtin "ValueError.__new__")), (some (.bool true))]⟩) :: (nat_lit 71, ⟨(.type "tuple"), none, (.seq #[(.ref 31)] 0), #[]⟩) :: (nat_lit 78, ⟨(.type "tuple"), none, (.seq #[] 0), #[]⟩) :: (nat_lit 79, ⟨(.type "dict"), none, (.dict #[⟨PyData.keyHash P "__module__", .str "__module__" 269, (.str "countkin.errors" 194)⟩, ⟨PyData.keyHash P "__firstlineno__", .str "__firstlineno__" 273, (.int 13 272)⟩, ⟨PyData.keyHash P "__static_attributes__", .str "__static_attributes__" 274, (.ref 78)⟩, ⟨PyData.keyHash P "__doc__", .str "__doc__" 275, .none⟩] 2), #[]⟩) :: (nat_lit 80, ⟨(.type "type"), none, (.cls ⟨"NoFamily", [(.ref 31)], [(.ref 80), (.ref 31), (.type "ValueError"), (.type "Exception"), (.type "BaseException"), (.type "object")], 79, "NoFamily", true, [], [], false, none, false⟩), #[(some (.ref 71)), none, (some (.str "NoFamily" 262)), (some (.str "NoFamily" 270)), (some (.builtin "ValueError.__new__")), (some (.bool true))]⟩) :: (nat_lit 83, ⟨(.type "tuple"), none, (.seq #[(.ref 31)] 0), #[]⟩) :: (nat_lit 90, ⟨(.type "tuple"), none, (.seq #[] 0), #[]⟩) :: (nat_lit 91, ⟨(.type "dict"), none, (.dict #[⟨PyData.keyHash P "__module__", .str "__module__" 285, (.str "countkin.errors" 194)⟩, ⟨PyData.keyHash P "__firstlineno__", .str "__firstlineno__" 289, (.int 15 288)⟩, ⟨PyData.keyHash P "__static_attributes__", .str "__static_attributes__" 290, (.ref 90)⟩, ⟨PyData.keyHash P "__doc__", .str "__doc__" 291, .none⟩] 2), #[]⟩) :: (nat_lit 92, ⟨(.type "type"), none, (.cls ⟨"NoWay", [(.ref 31)], [(.ref 92), (.ref 31), (.type "ValueError"), (.type "Exception"), (.type "BaseException"), (.type "object")], 91, "NoWay", true, [], [], false, none, false⟩), #[(some (.ref 83)), none, (some (.str "NoWay" 278)), (some (.str "NoWay" 286)), (some (.builtin "ValueError.__new__")), (some (.bool true))]⟩) :: (nat_lit 95, ⟨(.type "tuple"), none, (.seq #[(.ref 31)] 0), #[]⟩) :: (nat_lit 102, ⟨(.type "tuple"), none, (.seq #[] 0), #[]⟩) :: (nat_lit 103, ⟨(.type "dict"), none, (.dict #[⟨PyData.keyHash P "__module__", .str "__module__" 301, (.str "countkin.errors" 194)⟩, ⟨PyData.keyHash P "__firstlineno__", .str "__firstlineno__" 305, (.int 17 304)⟩, ⟨PyData.keyHash P "__static_attributes__", .str "__static_attributes__" 306, (.ref 102)⟩, ⟨PyData.keyHash P "__doc__", .str "__doc__" 307, .none⟩] 2), #[]⟩) :: (nat_lit 104, ⟨(.type "type"), none, (.cls ⟨"Apart", [(.ref 31)], [(.ref 104), (.ref 31), (.type "ValueError"), (.type "Exception"), (.type "BaseException"), (.type "object")], 103, "Apart", true, [], [], false, none, false⟩), #[(some (.ref 95)), none, (some (.str "Apart" 294)), (some (.str "Apart" 302)), (some (.builtin "ValueError.__new__")), (some (.bool true))]⟩) :: (nat_lit 107, ⟨(.type "tuple"), none, (.seq #[(.ref 31)] 0), #[]⟩) :: (nat_lit 114, ⟨(.type "tuple"), none, (.seq #[] 0), #[]⟩) :: (nat_lit 115, ⟨(.type "dict"), none, (.dict #[⟨PyData.keyHash P "__module__", .str "__module__" 317, (.str "countkin.errors" 194)⟩, ⟨PyData.keyHash P "__firstlineno__", .str "__firstlineno__" 321, (.int 19 320)⟩, ⟨PyData.keyHash P "__static_attributes__", .str "__static_attributes__" 322, (.ref 114)⟩, ⟨PyData.keyHash P "__doc__", .str "__doc__" 323, .none⟩] 2), #[]⟩) :: (nat_lit 116, ⟨(.type "type"), none, (.cls ⟨"NoMark", [(.ref 31)], [(.ref 116), (.ref 31), (.type "ValueError"), (.type "Exception"), (.type "BaseException"), (.type "object")], 115, "NoMark", true, [], [], false, none, false⟩), #[(some (.ref 107)), none, (some (.str "NoMark" 310)), (some (.str "NoMark" 318)), (some (.builtin "ValueError.__new__")), (some (.bool true))]⟩) :: (nat_lit 119, ⟨(.type "tuple"), none, (.seq #[(.ref 31)] 0), #[]⟩) :: (nat_lit 126, ⟨(.type "tuple"), none, (.seq #[] 0), #[]⟩) :: (nat_lit 127, ⟨(.type "dict"), none, (.dict #[⟨PyData.keyHash P "__module__", .str "__module__" 333, (.str "countkin.errors" 194)⟩, ⟨PyData.keyHash P "__firstlineno__", .str "__firstlineno__" 337, (.int 21 336)⟩, ⟨PyData.keyHash P "__static_attributes__", .str "__static_attributes__" 338, (.ref 126)⟩, ⟨PyData.keyHash P "__doc__", .str "__doc__" 339, .none⟩] 2), #[]⟩) :: (nat_lit 128, ⟨(.type "type"), none, (.cls ⟨"NoText", [(.ref 31)], [(.ref 128), (.ref 31), (.type "ValueError"), (.type "Exception"), (.type "BaseException"), (.type "object")], 127, "NoText", true, [], [], false, none, false⟩), #[(some (.ref 119)), none, (some (.str "NoText" 326)), (some (.str "NoText" 334)), (some (.builtin "ValueError.__new__")), (some (.bool true))]⟩) :: (nat_lit 131, ⟨(.type "tuple"), none, (.seq #[(.ref 31)] 0), #[]⟩) :: (nat_lit 138, ⟨(.type "tuple"), none, (.seq #[] 0), #[]⟩) :: (nat_lit 140, ⟨(.type "tuple"), none, (.seq #[(.str "self" 357), (.str "place" 358)] 0), #[]⟩) :: (nat_lit 141, ⟨(.type "tuple"), none, (.seq #[] 0), #[]⟩) :: (nat_lit 143, ⟨(.type "code"), none, (.fields #[(.str "__init__" 354), (.str "Broken.__init__" 355), (.str "/claim/cut.py" 356), (.int 25 0), (.int 2 0), (.int 0 0), (.int 0 0), (.int 3 0), (.ref 138), (.bool true), (.int 181 0), (.ref 139), .none, (.ref 140), (.ref 141), (.ref 142), (.int 359 0), (.int 25 0), (.str "/claim/cut.py" 360)]), #[]⟩) :: (nat_lit 144, ⟨(.type "function"), none, (.func (fnOf "__init__" "Broken.__init__" (defArgs (inClass (top 11) 0)) (defBody (inClass (top 11) 0)) (defScope (inClass (top 11) 0)) .none .none .none (.str "countkin.errors" 194) none (.ref 143) .none)), #[]⟩) :: (nat_lit 145, ⟨(.type "tuple"), none, (.seq #[(.str "place" 362)] 0), #[]⟩) :: (nat_lit 146, ⟨(.type "dict"), none, (.dict #[⟨PyData.keyHash P "__module__", .str "__module__" 349, (.str "countkin.errors" 194)⟩, ⟨PyData.keyHash P "__firstlineno__", .str "__firstlineno__" 353, (.int 23 352)⟩, ⟨PyData.keyHash P "__init__", .str "__init__" 361, (.ref 144)⟩, ⟨PyData.keyHash P "__static_attributes__", .str "__static_attributes__" 363, (.ref 145)⟩, ⟨PyData.keyHash P "__doc__", .str "__doc__" 364, .none⟩] 2), #[]⟩) :: (nat_lit 147, ⟨(.type "type"), none, (.cls ⟨"Broken", [(.ref 31)], [(.ref 147), (.ref 31), (.type "ValueError"), (.type "Exception"), (.type "BaseException"), (.type "object")], 146, "Broken", true, [], [], false, none, false⟩), #[(some (.ref 131)), none, (some (.str "Broken" 342)), (some (.str "Broken" 350)), (some (.builtin "ValueError.__new__")), (some (.bool true))]⟩) :: (nat_lit 157, ⟨(.type "tuple"), none, (.seq #[] 0), #[]⟩) :: (nat_lit 159, ⟨(.type "tuple"), none, (.seq #[(.str "self" 384), (.str "word" 385), (.str "least" 386)] 0), #[]⟩) :: (nat_lit 160, ⟨(.type "tuple"), none, (.seq #[] 0), #[]⟩) :: (nat_lit 162, ⟨(.type "code"), none, (.fields #[(.str "__init__" 381), (.str "Family.__init__" 382), (.str "/claim/cut.py" 383), (.int 31 0), (.int 3 0), (.int 0 0), (.int 0 0), (.int 3 0), (.ref 157), (.bool true), (.int 181 0), (.ref 158), .none, (.ref 159), (.ref 160), (.ref 161), (.int 387 0), (.int 31 0), (.str "/claim/cut.py" 388)]), #[]⟩) :: (nat_lit 163, ⟨(.type "function"), none, (.func (fnOf "__init__" "Family.__init__" (defArgs (inClass (top 13) 0)) (defBody (inClass (top 13) 0)) (defScope (inClass (top 13) 0)) .none .none .none (.str "countkin.kin" 367) none (.ref 162) .none)), #[]⟩) :: (nat_lit 164, ⟨(.type "tuple"), none, (.seq #[] 0), #[]⟩) :: (nat_lit 166, ⟨(.type "tuple"), none, (.seq #[(.str "self" 393), (.str "thing" 394)] 0), #[]⟩) :: (nat_lit 167, ⟨(.type "tuple"), none, (.seq #[] 0), #[]⟩) :: (nat_lit 169, ⟨(.type "code"), none, (.fields #[(.str "size_of" 390), (.str "Family.size_of" 391), (.str "/claim/cut.py" 392), (.int 35 0), (.int 2 0), (.int 0 0), (.int 0 0), (.int 3 0), (.ref 164), (.bool true), (.int 181 0), (.ref 165), .none, (.ref 166), (.ref 167), (.ref 168), (.int 395 0), (.int 35 0), (.str "/claim/cut.py" 396)]), #[]⟩) :: (nat_lit 170, ⟨(.type "function"), none, (.func (fnOf "size_of" "Family.size_of" (defArgs (inClass (top 13) 1)) (defBody (inClass (top 13) 1)) (defScope (inClass (top 13) 1)) .none .none .none (.str "countkin.kin" 367) none (.ref 169) .none)), #[]⟩) :: (nat_lit 171, ⟨(.type "tuple"), none, (.seq #[] 0), #[]⟩) :: (nat_lit 173, ⟨(.type "tuple"), none, (.seq #[(.str "self" 401), (.str "thing" 402)] 0), #[]⟩) :: (nat_lit 174, ⟨(.type "tuple"), none, (.seq #[] 0), #[]⟩) :: (nat_lit 176, ⟨(.type "code"), none, (.fields #[(.str "is_one" 398), (.str "Family.is_one" 399), (.str "/claim/cut.py" 400), (.int 38 0), (.int 2 0), (.int 0 0), (.int 0 0), (.int 3 0), (.ref 171), (.bool true), (.int 181 0), (.ref 172), .none, (.ref 173), (.ref 174), (.ref 175), (.int 403 0), (.int 38 0), (.str "/claim/cut.py" 404)]), #[]⟩) :: (nat_lit 177, ⟨(.type "function"), none, (.func (fnOf "is_one" "Family.is_one" (defArgs (inClass (top 13) 2)) (defBody (inClass (top 13) 2)) (defScope (inClass (top 13) 2)) .none .none .none (.str "countkin.kin" 367) none (.ref 176) .none)), #[]⟩) :: (nat_lit 178, ⟨(.type "tuple"), none, (.seq #[] 0), #[]⟩) :: (nat_lit 180, ⟨(.type "tuple"), none, (.seq #[(.str "self" 409), (.str "size" 410)] 0), #[]⟩) :: (nat_lit 181, ⟨(.type "tuple"), none, (.seq #[] 0), #[]⟩) :: (nat_lit 183, ⟨(.type "code"), none, (.fields #[(.str "unchecked_many" 406), (.str "Family.unchecked_many" 407), (.str "/claim/cut.py" 408), (.int 41 0), (.int 2 0), (.int 0 0), (.int 0 0), (.int 3 0), (.ref 178), (.bool true), (.int 181 0), (.ref 179), .none, (.ref 180), (.ref 181), (.ref 182), (.int 411 0), (.int 41 0), (.str "/claim/cut.py" 412)]), #[]⟩) :: (nat_lit 184, ⟨(.type "function"), none, (.func (fnOf "unchecked_many" "Family.unchecked_many" (defArgs (inClass (top 13) 3)) (defBody (inClass (top 13) 3)) (defScope (inClass (top 13) 3)) .none .none .none (.str "countkin.kin" 367) none (.ref 183) .none)), #[]⟩) :: (nat_lit 185, ⟨(.type "tuple"), none, (.seq #[] 0), #[]⟩) :: (nat_lit 187, ⟨(.type "tuple"), none, (.seq #[(.str "self" 417), (.str "thing" 418)] 0), #[]⟩) :: (nat_lit 188, ⟨(.type "tuple"), none, (.seq #[] 0), #[]⟩) :: (nat_lit 190, ⟨(.type "code"), none, (.fields #[(.str "unchecked_number" 414), (.str "Family.unchecked_number" 415), (.str "/claim/cut.py" 416), (.int 44 0), (.int 2 0), (.int 0 0), (.int 0 0), (.int 3 0), (.ref 185), (.bool true), (.int 181 0), (.ref 186), .none, (.ref 187), (.ref 188), (.ref 189), (.int 419 0), (.int 44 0), (.str "/claim/cut.py" 420)]), #[]⟩) :: (nat_lit 191, ⟨(.type "function"), none, (.func (fnOf "unchecked_number" "Family.unchecked_number" (defArgs (inClass (top 13) 4)) (defBody (inClass (top 13) 4)) (defScope (inClass (top 13) 4)) .none .none .none (.str "countkin.kin" 367) none (.ref 190) .none)), #[]⟩) :: (nat_lit 192, ⟨(.type "tuple"), none, (.seq #[] 0), #[]⟩) :: (nat_lit 194, ⟨(.type "tuple"), none, (.seq #[(.str "self" 425), (.str "size" 426), (.str "number" 427)] 0), #[]⟩) :: (nat_lit 195, ⟨(.type "tuple"), none, (.seq #[] 0), #[]⟩) :: (nat_lit 197, ⟨(.type "code"), none, (.fields #[(.str "unchecked_thing" 422), (.str "Family.unchecked_thing" 423), (.str "/claim/cut.py" 424), (.int 47 0), (.int 3 0), (.int 0 0), (.int 0 0), (.int 3 0), (.ref 192), (.bool true), (.int 181 0), (.ref 193), .none, (.ref 194), (.ref 195), (.ref 196), (.int 428 0), (.int 47 0), (.str "/claim/cut.py" 429)]), #[]⟩) :: (nat_lit 198, ⟨(.type "function"), none, (.func (fnOf "unchecked_thing" "Family.unchecked_thing" (defArgs (inClass (top 13) 5)) (defBody (inClass (top 13) 5)) (defScope (inClass (top 13) 5)) .none .none .none (.str "countkin.kin" 367) none (.ref 197) .none)), #[]⟩) :: (nat_lit 199, ⟨(.type "tuple"), none, (.seq #[] 0), #[]⟩) :: (nat_lit 201, ⟨(.type "tuple"), none, (.seq #[(.str "self" 434), (.str "size" 435)] 0), #[]⟩) :: (nat_lit 202, ⟨(.type "tuple"), none, (.seq #[] 0), #[]⟩) :: (nat_lit 204, ⟨(.type "code"), none, (.fields #[(.str "many" 431), (.str "Family.many" 432), (.str "/claim/cut.py" 433), (.int 50 0), (.int 2 0), (.int 0 0), (.int 0 0), (.int 3 0), (.ref 199), (.bool true), (.int 181 0), (.ref 200), .none, (.ref 201), (.ref 202), (.ref 203), (.int 436 0), (.int 50 0), (.str "/claim/cut.py" 437)]), #[]⟩) :: (nat_lit 205, ⟨(.type "function"), none, (.func (fnOf "many" "Family.many" (defArgs (inClass (top 13) 6)) (defBody (inClass (top 13) 6)) (defScope (inClass (top 13) 6)) .none .none .none (.str "countkin.kin" 367) none (.ref 204) .none)), #[]⟩) :: (nat_lit 206, ⟨(.type "tuple"), none, (.seq #[] 0), #[]⟩) :: (nat_lit 208, ⟨(.type "tuple"), none, (.seq #[(.str "self" 442), (.str "thing" 443)] 0), #[]⟩) :: (nat_lit 209, ⟨(.type "tuple"), none, (.seq #[] 0), #[]⟩) :: (nat_lit 211, ⟨(.type "code"), none, (.fields #[(.str "refuse_other" 439), (.str "Family.refuse_other" 440), (.str "/claim/cut.py" 441), (.int 53 0), (.int 2 0), (.int 0 0), (.int 0 0), (.int 3 0), (.ref 206), (.bool true), (.int 181 0), (.ref 207), .none, (.ref 208), (.ref 209), (.ref 210), (.int 444 0), (.int 53 0), (.str "/claim/cut.py" 445)]), #[]⟩) :: (nat_lit 212, ⟨(.type "function"), none, (.func (fnOf "refuse_other" "Family.refuse_other" (defArgs (inClass (top 13) 7)) (defBody (inClass (top 13) 7)) (defScope (inClass (top 13) 7)) .none .none .none (.str "countkin.kin" 367) none (.ref 211) .none)), #[]⟩) :: (nat_lit 213, ⟨(.type "tuple"), none, (.seq #[] 0), #[]⟩) :: (nat_lit 215, ⟨(.type "tuple"), none, (.seq #[(.str "self" 450), (.str "thing" 451)] 0), #[]⟩) :: (nat_lit 216, ⟨(.type "tuple"), none, (.seq #[] 0), #[]⟩) :: (nat_lit 218, ⟨(.type "code"), none, (.fields #[(.str "number_of" 447), (.str "Family.number_of" 448), (.str "/claim/cut.py" 449), (.int 57 0), (.int 2 0), (.int 0 0), (.int 0 0), (.int 3 0), (.ref 213), (.bool true), (.int 181 0), (.ref 214), .none, (.ref 215), (.ref 216), (.ref 217), (.int 452 0), (.int 57 0), (.str "/claim/cut.py" 453)]), #[]⟩) :: (nat_lit 219, ⟨(.type "function"), none, (.func (fnOf "number_of" "Family.number_of" (defArgs (inClass (top 13) 8)) (defBody (inClass (top 13) 8)) (defScope (inClass (top 13) 8)) .none .none .none (.str "countkin.kin" 367) none (.ref 218) .none)), #[]⟩) :: (nat_lit 220, ⟨(.type "tuple"), none, (.seq #[] 0), #[]⟩) :: (nat_lit 222, ⟨(.type "tuple"), none, (.seq #[(.str "self" 458), (.str "size" 459), (.str "number" 460)] 0), #[]⟩) :: (nat_lit 223, ⟨(.type "tuple"), none, (.seq #[] 0), #[]⟩) :: (nat_lit 225, ⟨(.type "code"), none, (.fields #[(.str "thing_of" 455), (.str "Family.thing_of" 456), (.str "/claim/cut.py" 457), (.int 60 0), (.int 3 0), (.int 0 0), (.int 0 0), (.int 3 0), (.ref 220), (.bool true), (.int 181 0), (.ref 221), .none, (.ref 222), (.ref 223), (.ref 224), (.int 461 0), (.int 60 0), (.str "/claim/cut.py" 462)]), #[]⟩) :: (nat_lit 226, ⟨(.type "function"), none, (.func (fnOf "thing_of" "Family.thing_of" (defArgs (inClass (top 13) 9)) (defBody (inClass (top 13) 9)) (defScope (inClass (top 13) 9)) .none .none .none (.str "countkin.kin" 367) none (.ref 225) .none)), #[]⟩) :: (nat_lit 227, ⟨(.type "tuple"), none, (.seq #[] 0), #[]⟩) :: (nat_lit 229, ⟨(.type "tuple"), none, (.seq #[(.str "self" 467), (.str "thing" 468)] 0), #[]⟩) :: (nat_lit 230, ⟨(.type "tuple"), none, (.seq #[] 0), #[]⟩) :: (nat_lit 232, ⟨(.type "code"), none, (.fields #[(.str "next_of" 464), (.str "Family.next_of" 465), (.str "/claim/cut.py" 466), (.int 63 0), (.int 2 0), (.int 0 0), (.int 0 0), (.int 3 0), (.ref 227), (.bool true), (.int 181 0), (.ref 228), .none, (.ref 229), (.ref 230), (.ref 231), (.int 469 0), (.int 63 0), (.str "/claim/cut.py" 470)]), #[]⟩) :: (nat_lit 233, ⟨(.type "function"), none, (.func (fnOf "next_of" "Family.next_of" (defArgs (inClass (top 13) 10)) (defBody (inClass (top 13) 10)) (defScope (inClass (top 13) 10)) .none .none .none (.str "countkin.kin" 367) none (.ref 232) .none)), #[]⟩) :: (nat_lit 234, ⟨(.type "tuple"), none, (.seq #[(.str "least" 472), (.str "word" 473)] 0), #[]⟩) :: (nat_lit 235, ⟨(.type "dict"), none, (.dict #[⟨PyData.keyHash P "__module__", .str "__module__" 376, (.str "countkin.kin" 367)⟩, ⟨PyData.keyHash P "__firstlineno__", .str "__firstlineno__" 380, (.int 29 379)⟩, ⟨PyData.keyHash P "__init__", .str "__init__" 389, (.ref 163)⟩, ⟨PyData.keyHash P "size_of", .str "size_of" 397, (.ref 170)⟩, ⟨PyData.keyHash P "is_one", .str "is_one" 405, (.ref 177)⟩, ⟨PyData.keyHash P "unchecked_many", .str "unchecked_many" 413, (.ref 184)⟩, ⟨PyData.keyHash P "unchecked_number", .str "unchecked_number" 421, (.ref 191)⟩, ⟨PyData.keyHash P "unchecked_thing", .str "unchecked_thing" 430, (.ref 198)⟩, ⟨PyData.keyHash P "many", .str "many" 438, (.ref 205)⟩, ⟨PyData.keyHash P "refuse_other", .str "refuse_other" 446, (.ref 212)⟩, ⟨PyData.keyHash P "number_of", .str "number_of" 454, (.ref 219)⟩, ⟨PyData.keyHash P "thing_of", .str "thing_of" 463, (.ref 226)⟩, ⟨PyData.keyHash P "next_of", .str "next_of" 471, (.ref 233)⟩, ⟨PyData.keyHash P "__static_attributes__", .str "__static_attributes__" 474, (.ref 234)⟩, ⟨PyData.keyHash P "__dict__", .str "__dict__" 476, (.ref 237)⟩, ⟨PyData.keyHash P "__weakref__", .str "__weakref__" 478, (.ref 238)⟩, ⟨PyData.keyHash P "__doc__", .str "__doc__" 479, .none⟩] 4), #[]⟩) :: (nat_lit 236, ⟨(.type "type"), none, (.cls ⟨"Family", [(.type "object")], [(.ref 236), (.type "object")], 235, "Family", true, [], [(.ref 313)], false, none, false⟩), #[none, none, (some (.str "Family" 369)), (some (.str "Family" 377)), (some (.builtin "object.__new__")), (some (.bool true))]⟩) :: (nat_lit 237, ⟨(.type "getset_descriptor"), none, (.fields #[(.str "__dict__" 475), (.ref 236), (.builtin "function.__dict__"), (.builtin "function.__dict__#set")]), #[]⟩) :: (nat_lit 238, ⟨(.type "getset_descriptor"), none, (.fields #[(.str "__weakref__" 477), (.ref 236), (.builtin "ExceptionGroup.__weakref__"), .none]), #[]⟩) :: (nat_lit 241, ⟨(.type "tuple"), none, (.seq #[(.ref 236)] 0), #[]⟩) :: (nat_lit 248, ⟨(.type "tuple"), none, (.seq #[] 0), #[]⟩) :: (nat_lit 250, ⟨(.type "tuple"), none, (.seq #[(.str "self" 497), (.str "word" 498)] 0), #[]⟩) :: (nat_lit 251, ⟨(.type "tuple"), none, (.seq #[] 0), #[]⟩) :: (nat_lit 253, ⟨(.type "code"), none, (.fields #[(.str "__init__" 494), (.str "SplitFamily.__init__" 495), (.str "/claim/cut.py" 496), (.int 67 0), (.int 2 0), (.int 0 0), (.int 0 0), (.int 3 0), (.ref 248), (.bool true), (.int 181 0), (.ref 249), .none, (.ref 250), (.ref 251), (.ref 252), (.int 499 0), (.int 67 0), (.str "/claim/cut.py" 500)]), #[]⟩) :: (nat_lit 254, ⟨(.type "function"), none, (.func (fnOf "__init__" "SplitFamily.__init__" (defArgs (inClass (top 14) 0)) (defBody (inClass (top 14) 0)) (defScope (inClass (top 14) 0)) .none .none .none (.str "countkin.kin" 367) none (.ref 253) .none)), #[]⟩) :: (nat_lit 255, ⟨(.type "tuple"), none, (.seq #[] 0), #[]⟩) :: (nat_lit 257, ⟨(.type "tuple"), none, (.seq #[(.str "self" 505)] 0), #[]⟩) :: (nat_lit 258, ⟨(.type "tuple"), none, (.seq #[] 0), #[]⟩) :: (nat_lit 260, ⟨(.type "code"), none, (.fields #[(.str "bare" 502), (.str "SplitFamily.bare" 503), (.str "/claim/cut.py" 504), (.int 70 0), (.int 1 0), (.int 0 0), (.int 0 0), (.int 3 0), (.ref 255), (.bool true), (.int 181 0), (.ref 256), .none, (.ref 257), (.ref 258), (.ref 259), (.int 506 0), (.int 70 0), (.str "/claim/cut.py" 507)]), #[]⟩) :: (nat_lit 261, ⟨(.type "function"), none, (.func (fnOf "bare" "SplitFamily.bare" (defArgs (inClass (top 14) 1)) (defBody (inClass (top 14) 1)) (defScope (inClass (top 14) 1)) .none .none .none (.str "countkin.kin" 367) none (.ref 260) .none)), #[]⟩) :: (nat_lit 262, ⟨(.type "tuple"), none, (.seq #[] 0), #[]⟩) :: (nat_lit 264, ⟨(.type "tuple"), none, (.seq #[(.str "self" 512), (.str "thing" 513)] 0), #[]⟩) :: (nat_lit 265, ⟨(.type "tuple"), none, (.seq #[] 0), #[]⟩) :: (nat_lit 267, ⟨(.type "code"), none, (.fields #[(.str "parted" 509), (.str "SplitFamily.parted" 510), (.str "/claim/cut.py" 511), (.int 73 0), (.int 2 0), (.int 0 0), (.int 0 0), (.int 3 0), (.ref 262), (.bool true), (.int 181 0), (.ref 263), .none, (.ref 264), (.ref 265), (.ref 266), (.int 514 0), (.int 73 0), (.str "/claim/cut.py" 515)]), #[]⟩) :: (nat_lit 268, ⟨(.type "function"), none, (.func (fnOf "parted" "SplitFamily.parted" (defArgs (inClass (top 14) 2)) (defBody (inClass (top 14) 2)) (defScope (inClass (top 14) 2)) .none .none .none (.str "countkin.kin" 367) none (.ref 267) .none)), #[]⟩) :: (nat_lit 269, ⟨(.type "tuple"), none, (.seq #[] 0), #[]⟩) :: (nat_lit 271, ⟨(.type "tuple"), none, (.seq #[(.str "self" 520), (.str "left" 521), (.str "right" 522)] 0), #[]⟩) :: (nat_lit 272, ⟨(.type "tuple"), none, (.seq #[] 0), #[]⟩) :: (nat_lit 274, ⟨(.type "code"), none, (.fields #[(.str "joined" 517), (.str "SplitFamily.joined" 518), (.str "/claim/cut.py" 519), (.int 76 0), (.int 3 0), (.int 0 0), (.int 0 0), (.int 3 0), (.ref 269), (.bool true), (.int 181 0), (.ref 270), .none, (.ref 271), (.ref 272), (.ref 273), (.int 523 0), (.int 76 0), (.str "/claim/cut.py" 524)]), #[]⟩) :: (nat_lit 275, ⟨(.type "function"), none, (.func (fnOf "joined" "SplitFamily.joined" (defArgs (inClass (top 14) 3)) (defBody (inClass (top 14) 3)) (defScope (inClass (top 14) 3)) .none .none .none (.str "countkin.kin" 367) none (.ref 274) .none)), #[]⟩) :: (nat_lit 276, ⟨(.type "tuple"), none, (.seq #[] 0), #[]⟩) :: (nat_lit 278, ⟨(.type "tuple"), none, (.seq #[(.str "self" 529), (.str "size" 530)] 0), #[]⟩) :: (nat_lit 279, ⟨(.type "tuple"), none, (.seq #[] 0), #[]⟩) :: (nat_lit 281, ⟨(.type "code"), none, (.fields #[(.str "unchecked_many" 526), (.str "SplitFamily.unchecked_many" 527), (.str "/claim/cut.py" 528), (.int 79 0), (.int 2 0), (.int 0 0), (.int 0 0), (.int 3 0), (.ref 276), (.bool true), (.int 181 0), (.ref 277), .none, (.ref 278), (.ref 279), (.ref 280), (.int 531 0), (.int 79 0), (.str "/claim/cut.py" 532)]), #[]⟩) :: (nat_lit 282, ⟨(.type "function"), none, (.func (fnOf "unchecked_many" "SplitFamily.unchecked_many" (defArgs (inClass (top 14) 4)) (defBody (inClass (top 14) 4)) (defScope (inClass (top 14) 4)) .none .none .none (.str "countkin.kin" 367) none (.ref 281) .none)), #[]⟩) :: (nat_lit 283, ⟨(.type "tuple"), none, (.seq #[] 0), #[]⟩) :: (nat_lit 285, ⟨(.type "tuple"), none, (.seq #[(.str "self" 537), (.str "thing" 538)] 0), #[]⟩) :: (nat_lit 286, ⟨(.type "tuple"), none, (.seq #[] 0), #[]⟩) :: (nat_lit 288, ⟨(.type "code"), none, (.fields #[(.str "unchecked_number" 534), (.str "SplitFamily.unchecked_number" 535), (.str "/claim/cut.py" 536), (.int 82 0), (.int 2 0), (.int 0 0), (.int 0 0), (.int 3 0), (.ref 283), (.bool true), (.int 181 0), (.ref 284), .none, (.ref 285), (.ref 286), (.ref 287), (.int 539 0), (.int 82 0), (.str "/claim/cut.py" 540)]), #[]⟩) :: (nat_lit 289, ⟨(.type "function"), none, (.func (fnOf "unchecked_number" "SplitFamily.unchecked_number" (defArgs (inClass (top 14) 5)) (defBody (inClass (top 14) 5)) (defScope (inClass (top 14) 5)) .none .none .none (.str "countkin.kin" 367) none (.ref 288) .none)), #[]⟩) :: (nat_lit 290, ⟨(.type "tuple"), none, (.seq #[] 0), #[]⟩) :: (nat_lit 292, ⟨(.type "tuple"), none, (.seq #[(.str "self" 545), (.str "size" 546), (.str "number" 547)] 0), #[]⟩) :: (nat_lit 293, ⟨(.type "tuple"), none, (.seq #[] 0), #[]⟩) :: (nat_lit 295, ⟨(.type "code"), none, (.fields #[(.str "unchecked_thing" 542), (.str "SplitFamily.unchecked_thing" 543), (.str "/claim/cut.py" 544), (.int 85 0), (.int 3 0), (.int 0 0), (.int 0 0), (.int 3 0), (.ref 290), (.bool true), (.int 181 0), (.ref 291), .none, (.ref 292), (.ref 293), (.ref 294), (.int 548 0), (.int 85 0), (.str "/claim/cut.py" 549)]), #[]⟩) :: (nat_lit 296, ⟨(.type "function"), none, (.func (fnOf "unchecked_thing" "SplitFamily.unchecked_thing" (defArgs (inClass (top 14) 6)) (defBody (inClass (top 14) 6)) (defScope (inClass (top 14) 6)) .none .none .none (.str "countkin.kin" 367) none (.ref 295) .none)), #[]⟩) :: (nat_lit 297, ⟨(.type "tuple"), none, (.seq #[] 0), #[]⟩) :: (nat_lit 299, ⟨(.type "tuple"), none, (.seq #[(.str "self" 554), (.str "counts" 555), (.str "thing" 556)] 0), #[]⟩) :: (nat_lit 300, ⟨(.type "tuple"), none, (.seq #[] 0), #[]⟩) :: (nat_lit 302, ⟨(.type "code"), none, (.fields #[(.str "number_by_parts" 551), (.str "SplitFamily.number_by_parts" 552), (.str "/claim/cut.py" 553), (.int 88 0), (.int 3 0), (.int 0 0), (.int 0 0), (.int 3 0), (.ref 297), (.bool true), (.int 181 0), (.ref 298), .none, (.ref 299), (.ref 300), (.ref 301), (.int 557 0), (.int 88 0), (.str "/claim/cut.py" 558)]), #[]⟩) :: (nat_lit 303, ⟨(.type "function"), none, (.func (fnOf "number_by_parts" "SplitFamily.number_by_parts" (defArgs (inClass (top 14) 7)) (defBody (inClass (top 14) 7)) (defScope (inClass (top 14) 7)) .none .none .none (.str "countkin.kin" 367) none (.ref 302) .none)), #[]⟩) :: (nat_lit 304, ⟨(.type "tuple"), none, (.seq #[] 0), #[]⟩) :: (nat_lit 306, ⟨(.type "tuple"), none, (.seq #[(.str "self" 563), (.str "counts" 564), (.str "size" 565), (.str "number" 566)] 0), #[]⟩) :: (nat_lit 307, ⟨(.type "tuple"), none, (.seq #[] 0), #[]⟩) :: (nat_lit 309, ⟨(.type "code"), none, (.fields #[(.str "thing_by_parts" 560), (.str "SplitFamily.thing_by_parts" 561), (.str "/claim/cut.py" 562), (.int 91 0), (.int 4 0), (.int 0 0), (.int 0 0), (.int 3 0), (.ref 304), (.bool true), (.int 181 0), (.ref 305), .none, (.ref 306), (.ref 307), (.ref 308), (.int 567 0), (.int 91 0), (.str "/claim/cut.py" 568)]), #[]⟩) :: (nat_lit 310, ⟨(.type "function"), none, (.func (fnOf "thing_by_parts" "SplitFamily.thing_by_parts" (defArgs (inClass (top 14) 8)) (defBody (inClass (top 14) 8)) (defScope (inClass (top 14) 8)) .none .none .none (.str "countkin.kin" 367) none (.ref 309) .none)), #[]⟩) :: (nat_lit 311, ⟨(.type "tuple"), none, (.seq #[] 0), #[]⟩) :: (nat_lit 312, ⟨(.type "dict"), none, (.dict #[⟨PyData.keyHash P "__module__", .str "__module__" 489, (.str "countkin.kin" 367)⟩, ⟨PyData.keyHash P "__firstlineno__", .str "__firstlineno__" 493, (.int 65 492)⟩, ⟨PyData.keyHash P "__init__", .str "__init__" 501, (.ref 254)⟩, ⟨PyData.keyHash P "bare", .str "bare" 508, (.ref 261)⟩, ⟨PyData.keyHash P "parted", .str "parted" 516, (.ref 268)⟩, ⟨PyData.keyHash P "joined", .str "joined" 525, (.ref 275)⟩, ⟨PyData.keyHash P "unchecked_many", .str "unchecked_many" 533, (.ref 282)⟩, ⟨PyData.keyHash P "unchecked_number", .str "unchecked_number" 541, (.ref 289)⟩, ⟨PyData.keyHash P "unchecked_thing", .str "unchecked_thing" 550, (.ref 296)⟩, ⟨PyData.keyHash P "number_by_parts", .str "number_by_parts" 559, (.ref 303)⟩, ⟨PyData.keyHash P "thing_by_parts", .str "thing_by_parts" 569, (.ref 310)⟩, ⟨PyData.keyHash P "__static_attributes__", .str "__static_attributes__" 570, (.ref 311)⟩, ⟨PyData.keyHash P "__doc__", .str "__doc__" 571, .none⟩] 2), #[]⟩) :: (nat_lit 313, ⟨(.type "type"), none, (.cls ⟨"SplitFamily", [(.ref 236)], [(.ref 313), (.ref 236), (.type "object")], 312, "SplitFamily", true, [], [(.ref 393), (.ref 454), (.ref 515)], false, none, false⟩), #[(some (.ref 241)), none, (some (.str "SplitFamily" 482)), (some (.str "SplitFamily" 490)), (some (.builtin "object.__new__")), (some (.bool true))]⟩) :: (nat_lit 316, ⟨(.type "tuple"), none, (.seq #[] 0), #[]⟩) :: (nat_lit 318, ⟨(.type "tuple"), none, (.seq #[(.str "one" 577), (.str "other" 578), (.str "thing" 579)] 0), #[]⟩) :: (nat_lit 319, ⟨(.type "tuple"), none, (.seq #[] 0), #[]⟩) :: (nat_lit 321, ⟨(.type "code"), none, (.fields #[(.str "by_parts" 574), (.str "by_parts" 575), (.str "/claim/cut.py" 576), (.int 93 0), (.int 3 0), (.int 0 0), (.int 0 0), (.int 3 0), (.ref 316), (.bool true), (.int 181 0), (.ref 317), .none, (.ref 318), (.ref 319), (.ref 320), (.int 580 0), (.int 93 0), (.str "/claim/cut.py" 581)]), #[]⟩) :: (nat_lit 322, ⟨(.type "function"), none, (.func (fnOf "by_parts" "by_parts" (defArgs (top 15)) (defBody (top 15)) (defScope (top 15)) .none .none .none (.str "countkin.kin" 367) none (.ref 321) .none)), #[]⟩) :: (nat_lit 323, ⟨(.type "tuple"), none, (.seq #[] 0), #[]⟩) :: (nat_lit 325, ⟨(.type "tuple"), none, (.seq #[(.str "one" 586), (.str "other" 587), (.str "thing" 588), (.str "parts" 589), (.str "left" 590), (.str "right" 591)] 0), #[]⟩) :: (nat_lit 326, ⟨(.type "tuple"), none, (.seq #[] 0), #[]⟩) :: (nat_lit 328, ⟨(.type "code"), none, (.fields #[(.str "led_by_parts" 583), (.str "led_by_parts" 584), (.str "/claim/cut.py" 585), (.int 96 0), (.int 3 0), (.int 0 0), (.int 0 0), (.int 3 0), (.ref 323), (.bool true), (.int 181 0), (.ref 324), .none, (.ref 325), (.ref 326), (.ref 327), (.int 592 0), (.int 96 0), (.str "/claim/cut.py" 593)]), #[]⟩) :: (nat_lit 329, ⟨(.type "function"), none, (.func (fnOf "led_by_parts" "led_by_parts" (defArgs (top 16)) (defBody (top 16)) (defScope (top 16)) .none .none .none (.str "countkin.kin" 367) none (.ref 328) .none)), #[]⟩) :: (nat_lit 330, ⟨(.type "tuple"), none, (.seq #[] 0), #[]⟩) :: (nat_lit 333, ⟨(.type "code"), none, (.fields #[(.str "raised_by" 597), (.str "raised_by" 598), (.str "/claim/cut.py" 599), (.int 104 0), (.int 2 0), (.int 0 0), (.int 0 0), (.int 3 0), (.ref 330), (.bool true), (.int 181 0), (.ref 331), .none, .none, .none, (.ref 332), (.int 600 0), (.int 104 0), (.str "/claim/cut.py" 601)]), #[]⟩) :: (nat_lit 334, ⟨(.type "function"), none, (.func (fnOf "raised_by" "raised_by" (defArgs (top 18)) (defBody (top 18)) (defScope (top 18)) .none .none .none (.str "countkin.common" 595) none (.ref 333) .none)), #[]⟩) :: (nat_lit 335, ⟨(.type "tuple"), none, (.seq #[] 0), #[]⟩) :: (nat_lit 337, ⟨(.type "tuple"), none, (.seq #[(.str "text" 608), (.str "depth" 609), (.str "sign" 610)] 0), #[]⟩) :: (nat_lit 338, ⟨(.type "tuple"), none, (.seq #[] 0), #[]⟩) :: (nat_lit 340, ⟨(.type "code"), none, (.fields #[(.str "closes" 605), (.str "closes" 606), (.str "/claim/cut.py" 607), (.int 107 0), (.int 1 0), (.int 0 0), (.int 0 0), (.int 3 0), (.ref 335), (.bool true), (.int 181 0), (.ref 336), .none, (.ref 337), (.ref 338), (.ref 339), (.int 611 0), (.int 107 0), (.str "/claim/cut.py" 612)]), #[]⟩) :: (nat_lit 341, ⟨(.type "function"), none, (.func (fnOf "closes" "closes" (defArgs (top 20)) (defBody (top 20)) (defScope (top 20)) .none .none .none (.str "countkin.steps" 603) none (.ref 340) .none)), #[]⟩) :: (nat_lit 342, ⟨(.type "tuple"), none, (.seq #[(.ref 313)] 0), #[]⟩) :: (nat_lit 349, ⟨(.type "tuple"), none, (.seq #[] 0), #[]⟩) :: (nat_lit 351, ⟨(.type "tuple"), none, (.seq #[(.str "self" 631)] 0), #[]⟩) :: (nat_lit 352, ⟨(.type "tuple"), none, (.seq #[] 0), #[]⟩) :: (nat_lit 354, ⟨(.type "code"), none, (.fields #[(.str "__init__" 628), (.str "Brackets.__init__" 629), (.str "/claim/cut.py" 630), (.int 120 0), (.int 1 0), (.int 0 0), (.int 0 0), (.int 3 0), (.ref 349), (.bool true), (.int 181 0), (.ref 350), .none, (.ref 351), (.ref 352), (.ref 353), (.int 632 0), (.int 120 0), (.str "/claim/cut.py" 633)]), #[]⟩) :: (nat_lit 355, ⟨(.type "function"), none, (.func (fnOf "__init__" "Brackets.__init__" (defArgs (inClass (top 22) 0)) (defBody (inClass (top 22) 0)) (defScope (inClass (top 22) 0)) .none .none .none (.str "countkin.signs" 614) none (.ref 354) .none)), #[]⟩) :: (nat_lit 356, ⟨(.type "tuple"), none, (.seq #[] 0), #[]⟩) :: (nat_lit 358, ⟨(.type "tuple"), none, (.seq #[(.str "self" 638), (.str "thing" 639)] 0), #[]⟩) :: (nat_lit 359, ⟨(.type "tuple"), none, (.seq #[] 0), #[]⟩) :: (nat_lit 361, ⟨(.type "code"), none, (.fields #[(.str "size_of" 635), (.str "Brackets.size_of" 636), (.str "/claim/cut.py" 637), (.int 123 0), (.int 2 0), (.int 0 0), (.int 0 0), (.int 3 0), (.ref 356), (.bool true), (.int 181 0), (.ref 357), .none, (.ref 358), (.ref 359), (.ref 360), (.int 640 0), (.int 123 0), (.str "/claim/cut.py" 641)]), #[]⟩) :: (nat_lit 362, ⟨(.type "function"), none, (.func (fnOf "size_of" "Brackets.size_of" (defArgs (inClass (top 22) 1)) (defBody (inClass (top 22) 1)) (defScope (inClass (top 22) 1)) .none .none .none (.str "countkin.signs" 614) none (.ref 361) .none)), #[]⟩) :: (nat_lit 363, ⟨(.type "tuple"), none, (.seq #[] 0), #[]⟩) :: (nat_lit 365, ⟨(.type "tuple"), none, (.seq #[(.str "self" 646), (.str "thing" 647)] 0), #[]⟩) :: (nat_lit 366, ⟨(.type "tuple"), none, (.seq #[] 0), #[]⟩) :: (nat_lit 368, ⟨(.type "code"), none, (.fields #[(.str "is_one" 643), (.str "Brackets.is_one" 644), (.str "/claim/cut.py" 645), (.int 126 0), (.int 2 0), (.int 0 0), (.int 0 0), (.int 3 0), (.ref 363), (.bool true), (.int 181 0), (.ref 364), .none, (.ref 365), (.ref 366), (.ref 367), (.int 648 0), (.int 126 0), (.str "/claim/cut.py" 649)]), #[]⟩) :: (nat_lit 369, ⟨(.type "function"), none, (.func (fnOf "is_one" "Brackets.is_one" (defArgs (inClass (top 22) 2)) (defBody (inClass (top 22) 2)) (defScope (inClass (top 22) 2)) .none .none .none (.str "countkin.signs" 614) none (.ref 368) .none)), #[]⟩) :: (nat_lit 370, ⟨(.type "tuple"), none, (.seq #[] 0), #[]⟩) :: (nat_lit 372, ⟨(.type "tuple"), none, (.seq #[(.str "self" 654)] 0), #[]⟩) :: (nat_lit 373, ⟨(.type "tuple"), none, (.seq #[] 0), #[]⟩) :: (nat_lit 375, ⟨(.type "code"), none, (.fields #[(.str "bare" 651), (.str "Brackets.bare" 652), (.str "/claim/cut.py" 653), (.int 129 0), (.int 1 0), (.int 0 0), (.int 0 0), (.int 3 0), (.ref 370), (.bool true), (.int 181 0), (.ref 371), .none, (.ref 372), (.ref 373), (.ref 374), (.int 655 0), (.int 129 0), (.str "/claim/cut.py" 656)]), #[]⟩) :: (nat_lit 376, ⟨(.type "function"), none, (.func (fnOf "bare" "Brackets.bare" (defArgs (inClass (top 22) 3)) (defBody (inClass (top 22) 3)) (defScope (inClass (top 22) 3)) .none .none .none (.str "countkin.signs" 614) none (.ref 375) .none)), #[]⟩) :: (nat_lit 377, ⟨(.type "tuple"), none, (.seq #[] 0), #[]⟩) :: (nat_lit 379, ⟨(.type "tuple"), none, (.seq #[(.str "self" 661), (.str "thing" 662), (.str "end" 663)] 0), #[]⟩) :: (nat_lit 380, ⟨(.type "tuple"), none, (.seq #[] 0), #[]⟩) :: (nat_lit 382, ⟨(.type "code"), none, (.fields #[(.str "parted" 658), (.str "Brackets.parted" 659), (.str "/claim/cut.py" 660), (.int 132 0), (.int 2 0), (.int 0 0), (.int 0 0), (.int 3 0), (.ref 377), (.bool true), (.int 181 0), (.ref 378), .none, (.ref 379), (.ref 380), (.ref 381), (.int 664 0), (.int 132 0), (.str "/claim/cut.py" 665)]), #[]⟩) :: (nat_lit 383, ⟨(.type "function"), none, (.func (fnOf "parted" "Brackets.parted" (defArgs (inClass (top 22) 4)) (defBody (inClass (top 22) 4)) (defScope (inClass (top 22) 4)) .none .none .none (.str "countkin.signs" 614) none (.ref 382) .none)), #[]⟩) :: (nat_lit 384, ⟨(.type "tuple"), none, (.seq #[] 0), #[]⟩) :: (nat_lit 386, ⟨(.type "tuple"), none, (.seq #[(.str "self" 670), (.str "left" 671), (.str "right" 672)] 0), #[]⟩) :: (nat_lit 387, ⟨(.type "tuple"), none, (.seq #[] 0), #[]⟩) :: (nat_lit 389, ⟨(.type "code"), none, (.fields #[(.str "joined" 667), (.str "Brackets.joined" 668), (.str "/claim/cut.py" 669), (.int 136 0), (.int 3 0), (.int 0 0), (.int 0 0), (.int 3 0), (.ref 384), (.bool true), (.int 181 0), (.ref 385), .none, (.ref 386), (.ref 387), (.ref 388), (.int 673 0), (.int 136 0), (.str "/claim/cut.py" 674)]), #[]⟩) :: (nat_lit 390, ⟨(.type "function"), none, (.func (fnOf "joined" "Brackets.joined" (defArgs (inClass (top 22) 5)) (defBody (inClass (top 22) 5)) (defScope (inClass (top 22) 5)) .none .none .none (.str "countkin.signs" 614) none (.ref 389) .none)), #[]⟩) :: (nat_lit 391, ⟨(.type "tuple"), none, (.seq #[] 0), #[]⟩) :: (nat_lit 392, ⟨(.type "dict"), none, (.dict #[⟨PyData.keyHash P "__module__", .str "__module__" 623, (.str "countkin.signs" 614)⟩, ⟨PyData.keyHash P "__firstlineno__", .str "__firstlineno__" 627, (.int 118 626)⟩, ⟨PyData.keyHash P "__init__", .str "__init__" 634, (.ref 355)⟩, ⟨PyData.keyHash P "size_of", .str "size_of" 642, (.ref 362)⟩, ⟨PyData.keyHash P "is_one", .str "is_one" 650, (.ref 369)⟩, ⟨PyData.keyHash P "bare", .str "bare" 657, (.ref 376)⟩, ⟨PyData.keyHash P "parted", .str "parted" 666, (.ref 383)⟩, ⟨PyData.keyHash P "joined", .str "joined" 675, (.ref 390)⟩, ⟨PyData.keyHash P "__static_attributes__", .str "__static_attributes__" 676, (.ref 391)⟩, ⟨PyData.keyHash P "__doc__", .str "__doc__" 677, .none⟩] 2), #[]⟩) :: (nat_lit 393, ⟨(.type "type"), none, (.cls ⟨"Brackets", [(.ref 313)], [(.ref 393), (.ref 313), (.ref 236), (.type "object")], 392, "Brackets", true, [], [], false, none, false⟩), #[(some (.ref 342)), none, (some (.str "Brackets" 616)), (some (.str "Brackets" 624)), (some (.builtin "object.__new__")), (some (.bool true))]⟩) :: (nat_lit 396, ⟨(.type "tuple"), none, (.seq #[] 0), #[]⟩) :: (nat_lit 398, ⟨(.type "tuple"), none, (.seq #[(.str "text" 683), (.str "depth" 684), (.str "place" 685)] 0), #[]⟩) :: (nat_lit 399, ⟨(.type "tuple"), none, (.seq #[] 0), #[]⟩) :: (nat_lit 401, ⟨(.type "code"), none, (.fields #[(.str "first_close" 680), (.str "first_close" 681), (.str "/claim/cut.py" 682), (.int 138 0), (.int 1 0), (.int 0 0), (.int 0 0), (.int 3 0), (.ref 396), (.bool true), (.int 181 0), (.ref 397), .none, (.ref 398), (.ref 399), (.ref 400), (.int 686 0), (.int 138 0), (.str "/claim/cut.py" 687)]), #[]⟩) :: (nat_lit 402, ⟨(.type "function"), none, (.func (fnOf "first_close" "first_close" (defArgs (top 23)) (defBody (top 23)) (defScope (top 23)) .none .none .none (.str "countkin.signs" 614) none (.ref 401) .none)), #[]⟩) :: (nat_lit 403, ⟨(.type "tuple"), none, (.seq #[(.ref 313)] 0), #[]⟩) :: (nat_lit 410, ⟨(.type "tuple"), none, (.seq #[] 0), #[]⟩) :: (nat_lit 412, ⟨(.type "tuple"), none, (.seq #[(.str "self" 704)] 0), #[]⟩) :: (nat_lit 413, ⟨(.type "tuple"), none, (.seq #[] 0), #[]⟩) :: (nat_lit 415, ⟨(.type "code"), none, (.fields #[(.str "__init__" 701), (.str "Stairs.__init__" 702), (.str "/claim/cut.py" 703), (.int 150 0), (.int 1 0), (.int 0 0), (.int 0 0), (.int 3 0), (.ref 410), (.bool true), (.int 181 0), (.ref 411), .none, (.ref 412), (.ref 413), (.ref 414), (.int 705 0), (.int 150 0), (.str "/claim/cut.py" 706)]), #[]⟩) :: (nat_lit 416, ⟨(.type "function"), none, (.func (fnOf "__init__" "Stairs.__init__" (defArgs (inClass (top 24) 0)) (defBody (inClass (top 24) 0)) (defScope (inClass (top 24) 0)) .none .none .none (.str "countkin.signs" 614) none (.ref 415) .none)), #[]⟩) :: (nat_lit 417, ⟨(.type "tuple"), none, (.seq #[] 0), #[]⟩) :: (nat_lit 419, ⟨(.type "tuple"), none, (.seq #[(.str "self" 711), (.str "thing" 712)] 0), #[]⟩) :: (nat_lit 420, ⟨(.type "tuple"), none, (.seq #[] 0), #[]⟩) :: (nat_lit 422, ⟨(.type "code"), none, (.fields #[(.str "size_of" 708), (.str "Stairs.size_of" 709), (.str "/claim/cut.py" 710), (.int 153 0), (.int 2 0), (.int 0 0), (.int 0 0), (.int 3 0), (.ref 417), (.bool true), (.int 181 0), (.ref 418), .none, (.ref 419), (.ref 420), (.ref 421), (.int 713 0), (.int 153 0), (.str "/claim/cut.py" 714)]), #[]⟩) :: (nat_lit 423, ⟨(.type "function"), none, (.func (fnOf "size_of" "Stairs.size_of" (defArgs (inClass (top 24) 1)) (defBody (inClass (top 24) 1)) (defScope (inClass (top 24) 1)) .none .none .none (.str "countkin.signs" 614) none (.ref 422) .none)), #[]⟩) :: (nat_lit 424, ⟨(.type "tuple"), none, (.seq #[] 0), #[]⟩) :: (nat_lit 426, ⟨(.type "tuple"), none, (.seq #[(.str "self" 719), (.str "thing" 720), (.str "ahead" 721), (.str "place" 722), (.str "number" 723)] 0), #[]⟩) :: (nat_lit 427, ⟨(.type "tuple"), none, (.seq #[] 0), #[]⟩) :: (nat_lit 429, ⟨(.type "code"), none, (.fields #[(.str "is_one" 716), (.str "Stairs.is_one" 717), (.str "/claim/cut.py" 718), (.int 156 0), (.int 2 0), (.int 0 0), (.int 0 0), (.int 3 0), (.ref 424), (.bool true), (.int 181 0), (.ref 425), .none, (.ref 426), (.ref 427), (.ref 428), (.int 724 0), (.int 156 0), (.str "/claim/cut.py" 725)]), #[]⟩) :: (nat_lit 430, ⟨(.type "function"), none, (.func (fnOf "is_one" "Stairs.is_one" (defArgs (inClass (top 24) 2)) (defBody (inClass (top 24) 2)) (defScope (inClass (top 24) 2)) .none .none .none (.str "countkin.signs" 614) none (.ref 429) .none)), #[]⟩) :: (nat_lit 431, ⟨(.type "tuple"), none, (.seq #[] 0), #[]⟩) :: (nat_lit 433, ⟨(.type "tuple"), none, (.seq #[(.str "self" 730)] 0), #[]⟩) :: (nat_lit 434, ⟨(.type "tuple"), none, (.seq #[] 0), #[]⟩) :: (nat_lit 436, ⟨(.type "code"), none, (.fields #[(.str "bare" 727), (.str "Stairs.bare" 728), (.str "/claim/cut.py" 729), (.int 164 0), (.int 1 0), (.int 0 0), (.int 0 0), (.int 3 0), (.ref 431), (.bool true), (.int 181 0), (.ref 432), .none, (.ref 433), (.ref 434), (.ref 435), (.int 731 0), (.int 164 0), (.str "/claim/cut.py" 732)]), #[]⟩) :: (nat_lit 437, ⟨(.type "function"), none, (.func (fnOf "bare" "Stairs.bare" (defArgs (inClass (top 24) 3)) (defBody (inClass (top 24) 3)) (defScope (inClass (top 24) 3)) .none .none .none (.str "countkin.signs" 614) none (.ref 436) .none)), #[]⟩) :: (nat_lit 438, ⟨(.type "tuple"), none, (.seq #[] 0), #[]⟩) :: (nat_lit 440, ⟨(.type "tuple"), none, (.seq #[(.str "self" 737), (.str "thing" 738), (.str "begin" 739)] 0), #[]⟩) :: (nat_lit 441, ⟨(.type "tuple"), none, (.seq #[] 0), #[]⟩) :: (nat_lit 443, ⟨(.type "code"), none, (.fields #[(.str "parted" 734), (.str "Stairs.parted" 735), (.str "/claim/cut.py" 736), (.int 167 0), (.int 2 0), (.int 0 0), (.int 0 0), (.int 3 0), (.ref 438), (.bool true), (.int 181 0), (.ref 439), .none, (.ref 440), (.ref 441), (.ref 442), (.int 740 0), (.int 167 0), (.str "/claim/cut.py" 741)]), #[]⟩) :: (nat_lit 444, ⟨(.type "function"), none, (.func (fnOf "parted" "Stairs.parted" (defArgs (inClass (top 24) 4)) (defBody (inClass (top 24) 4)) (defScope (inClass (top 24) 4)) .none .none .none (.str "countkin.signs" 614) none (.ref 443) .none)), #[]⟩) :: (nat_lit 445, ⟨(.type "tuple"), none, (.seq #[] 0), #[]⟩) :: (nat_lit 447, ⟨(.type "tuple"), none, (.seq #[(.str "self" 746), (.str "left" 747), (.str "right" 748)] 0), #[]⟩) :: (nat_lit 448, ⟨(.type "tuple"), none, (.seq #[] 0), #[]⟩) :: (nat_lit 450, ⟨(.type "code"), none, (.fields #[(.str "joined" 743), (.str "Stairs.joined" 744), (.str "/claim/cut.py" 745), (.int 171 0), (.int 3 0), (.int 0 0), (.int 0 0), (.int 3 0), (.ref 445), (.bool true), (.int 181 0), (.ref 446), .none, (.ref 447), (.ref 448), (.ref 449), (.int 749 0), (.int 171 0), (.str "/claim/cut.py" 750)]), #[]⟩) :: (nat_lit 451, ⟨(.type "function"), none, (.func (fnOf "joined" "Stairs.joined" (defArgs (inClass (top 24) 5)) (defBody (inClass (top 24) 5)) (defScope (inClass (top 24) 5)) .none .none .none (.str "countkin.signs" 614) none (.ref 450) .none)), #[]⟩) :: (nat_lit 452, ⟨(.type "tuple"), none, (.seq #[] 0), #[]⟩) :: (nat_lit 453, ⟨(.type "dict"), none, (.dict #[⟨PyData.keyHash P "__module__", .str "__module__" 696, (.str "countkin.signs" 614)⟩, ⟨PyData.keyHash P "__firstlineno__", .str "__firstlineno__" 700, (.int 148 699)⟩, ⟨PyData.keyHash P "__init__", .str "__init__" 707, (.ref 416)⟩, ⟨PyData.keyHash P "size_of", .str "size_of" 715, (.ref 423)⟩, ⟨PyData.keyHash P "is_one", .str "is_one" 726, (.ref 430)⟩, ⟨PyData.keyHash P "bare", .str "bare" 733, (.ref 437)⟩, ⟨PyData.keyHash P "parted", .str "parted" 742, (.ref 444)⟩, ⟨PyData.keyHash P "joined", .str "joined" 751, (.ref 451)⟩, ⟨PyData.keyHash P "__static_attributes__", .str "__static_attributes__" 752, (.ref 452)⟩, ⟨PyData.keyHash P "__doc__", .str "__doc__" 753, .none⟩] 2), #[]⟩) :: (nat_lit 454, ⟨(.type "type"), none, (.cls ⟨"Stairs", [(.ref 313)], [(.ref 454), (.ref 313), (.ref 236), (.type "object")], 453, "Stairs", true, [], [], false, none, false⟩), #[(some (.ref 403)), none, (some (.str "Stairs" 689)), (some (.str "Stairs" 697)), (some (.builtin "object.__new__")), (some (.bool true))]⟩) :: (nat_lit 457, ⟨(.type "tuple"), none, (.seq #[] 0), #[]⟩) :: (nat_lit 459, ⟨(.type "tuple"), none, (.seq #[(.str "stairs" 759), (.str "place" 760)] 0), #[]⟩) :: (nat_lit 460, ⟨(.type "tuple"), none, (.seq #[] 0), #[]⟩) :: (nat_lit 462, ⟨(.type "code"), none, (.fields #[(.str "right_begin" 756), (.str "right_begin" 757), (.str "/claim/cut.py" 758), (.int 173 0), (.int 1 0), (.int 0 0), (.int 0 0), (.int 3 0), (.ref 457), (.bool true), (.int 181 0), (.ref 458), .none, (.ref 459), (.ref 460), (.ref 461), (.int 761 0), (.int 173 0), (.str "/claim/cut.py" 762)]), #[]⟩) :: (nat_lit 463, ⟨(.type "function"), none, (.func (fnOf "right_begin" "right_begin" (defArgs (top 25)) (defBody (top 25)) (defScope (top 25)) .none .none .none (.str "countkin.signs" 614) none (.ref 462) .none)), #[]⟩) :: (nat_lit 464, ⟨(.type "tuple"), none, (.seq #[(.ref 313)] 0), #[]⟩) :: (nat_lit 471, ⟨(.type "tuple"), none, (.seq #[] 0), #[]⟩) :: (nat_lit 473, ⟨(.type "tuple"), none, (.seq #[(.str "self" 781)] 0), #[]⟩) :: (nat_lit 474, ⟨(.type "tuple"), none, (.seq #[] 0), #[]⟩) :: (nat_lit 476, ⟨(.type "code"), none, (.fields #[(.str "__init__" 778), (.str "Twins.__init__" 779), (.str "/claim/cut.py" 780), (.int 181 0), (.int 1 0), (.int 0 0), (.int 0 0), (.int 3 0), (.ref 471), (.bool true), (.int 181 0), (.ref 472), .none, (.ref 473), (.ref 474), (.ref 475), (.int 782 0), (.int 181 0), (.str "/claim/cut.py" 783)]), #[]⟩) :: (nat_lit 477, ⟨(.type "function"), none, (.func (fnOf "__init__" "Twins.__init__" (defArgs (inClass (top 27) 0)) (defBody (inClass (top 27) 0)) (defScope (inClass (top 27) 0)) .none .none .none (.str "countkin.twigs" 764) none (.ref 476) .none)), #[]⟩) :: (nat_lit 478, ⟨(.type "tuple"), none, (.seq #[] 0), #[]⟩) :: (nat_lit 480, ⟨(.type "tuple"), none, (.seq #[(.str "self" 788), (.str "thing" 789), (.str "pairs" 790), (.str "row" 791), (.str "twin" 792)] 0), #[]⟩) :: (nat_lit 481, ⟨(.type "tuple"), none, (.seq #[] 0), #[]⟩) :: (nat_lit 483, ⟨(.type "code"), none, (.fields #[(.str "size_of" 785), (.str "Twins.size_of" 786), (.str "/claim/cut.py" 787), (.int 184 0), (.int 2 0), (.int 0 0), (.int 0 0), (.int 3 0), (.ref 478), (.bool true), (.int 181 0), (.ref 479), .none, (.ref 480), (.ref 481), (.ref 482), (.int 793 0), (.int 184 0), (.str "/claim/cut.py" 794)]), #[]⟩) :: (nat_lit 484, ⟨(.type "function"), none, (.func (fnOf "size_of" "Twins.size_of" (defArgs (inClass (top 27) 1)) (defBody (inClass (top 27) 1)) (defScope (inClass (top 27) 1)) .none .none .none (.str "countkin.twigs" 764) none (.ref 483) .none)), #[]⟩) :: (nat_lit 485, ⟨(.type "tuple"), none, (.seq #[] 0), #[]⟩) :: (nat_lit 487, ⟨(.type "tuple"), none, (.seq #[(.str "self" 799), (.str "thing" 800)] 0), #[]⟩) :: (nat_lit 488, ⟨(.type "tuple"), none, (.seq #[] 0), #[]⟩) :: (nat_lit 490, ⟨(.type "code"), none, (.fields #[(.str "is_one" 796), (.str "Twins.is_one" 797), (.str "/claim/cut.py" 798), (.int 194 0), (.int 2 0), (.int 0 0), (.int 0 0), (.int 3 0), (.ref 485), (.bool true), (.int 181 0), (.ref 486), .none, (.ref 487), (.ref 488), (.ref 489), (.int 801 0), (.int 194 0), (.str "/claim/cut.py" 802)]), #[]⟩) :: (nat_lit 491, ⟨(.type "function"), none, (.func (fnOf "is_one" "Twins.is_one" (defArgs (inClass (top 27) 2)) (defBody (inClass (top 27) 2)) (defScope (inClass (top 27) 2)) .none .none .none (.str "countkin.twigs" 764) none (.ref 490) .none)), #[]⟩) :: (nat_lit 492, ⟨(.type "tuple"), none, (.seq #[] 0), #[]⟩) :: (nat_lit 494, ⟨(.type "tuple"), none, (.seq #[(.str "self" 807)] 0), #[]⟩) :: (nat_lit 495, ⟨(.type "tuple"), none, (.seq #[] 0), #[]⟩) :: (nat_lit 497, ⟨(.type "code"), none, (.fields #[(.str "bare" 804), (.str "Twins.bare" 805), (.str "/claim/cut.py" 806), (.int 197 0), (.int 1 0), (.int 0 0), (.int 0 0), (.int 3 0), (.ref 492), (.bool true), (.int 181 0), (.ref 493), .none, (.ref 494), (.ref 495), (.ref 496), (.int 808 0), (.int 197 0), (.str "/claim/cut.py" 809)]), #[]⟩) :: (nat_lit 498, ⟨(.type "function"), none, (.func (fnOf "bare" "Twins.bare" (defArgs (inClass (top 27) 3)) (defBody (inClass (top 27) 3)) (defScope (inClass (top 27) 3)) .none .none .none (.str "countkin.twigs" 764) none (.ref 497) .none)), #[]⟩) :: (nat_lit 499, ⟨(.type "tuple"), none, (.seq #[] 0), #[]⟩) :: (nat_lit 501, ⟨(.type "tuple"), none, (.seq #[(.str "self" 814), (.str "thing" 815)] 0), #[]⟩) :: (nat_lit 502, ⟨(.type "tuple"), none, (.seq #[] 0), #[]⟩) :: (nat_lit 504, ⟨(.type "code"), none, (.fields #[(.str "parted" 811), (.str "Twins.parted" 812), (.str "/claim/cut.py" 813), (.int 200 0), (.int 2 0), (.int 0 0), (.int 0 0), (.int 3 0), (.ref 499), (.bool true), (.int 181 0), (.ref 500), .none, (.ref 501), (.ref 502), (.ref 503), (.int 816 0), (.int 200 0), (.str "/claim/cut.py" 817)]), #[]⟩) :: (nat_lit 505, ⟨(.type "function"), none, (.func (fnOf "parted" "Twins.parted" (defArgs (inClass (top 27) 4)) (defBody (inClass (top 27) 4)) (defScope (inClass (top 27) 4)) .none .none .none (.str "countkin.twigs" 764) none (.ref 504) .none)), #[]⟩) :: (nat_lit 506, ⟨(.type "tuple"), none, (.seq #[] 0), #[]⟩) :: (nat_lit 508, ⟨(.type "tuple"), none, (.seq #[(.str "self" 822), (.str "left" 823), (.str "right" 824)] 0), #[]⟩) :: (nat_lit 509, ⟨(.type "tuple"), none, (.seq #[] 0), #[]⟩) :: (nat_lit 511, ⟨(.type "code"), none, (.fields #[(.str "joined" 819), (.str "Twins.joined" 820), (.str "/claim/cut.py" 821), (.int 203 0), (.int 3 0), (.int 0 0), (.int 0 0), (.int 3 0), (.ref 506), (.bool true), (.int 181 0), (.ref 507), .none, (.ref 508), (.ref 509), (.ref 510), (.int 825 0), (.int 203 0), (.str "/claim/cut.py" 826)]), #[]⟩) :: (nat_lit 512, ⟨(.type "function"), none, (.func (fnOf "joined" "Twins.joined" (defArgs (inClass (top 27) 5)) (defBody (inClass (top 27) 5)) (defScope (inClass (top 27) 5)) .none .none .none (.str "countkin.twigs" 764) none (.ref 511) .none)), #[]⟩) :: (nat_lit 513, ⟨(.type "tuple"), none, (.seq #[] 0), #[]⟩) :: (nat_lit 514, ⟨(.type "dict"), none, (.dict #[⟨PyData.keyHash P "__module__", .str "__module__" 773, (.str "countkin.twigs" 764)⟩, ⟨PyData.keyHash P "__firstlineno__", .str "__firstlineno__" 777, (.int 179 776)⟩, ⟨PyData.keyHash P "__init__", .str "__init__" 784, (.ref 477)⟩, ⟨PyData.keyHash P "size_of", .str "size_of" 795, (.ref 484)⟩, ⟨PyData.keyHash P "is_one", .str "is_one" 803, (.ref 491)⟩, ⟨PyData.keyHash P "bare", .str "bare" 810, (.ref 498)⟩, ⟨PyData.keyHash P "parted", .str "parted" 818, (.ref 505)⟩, ⟨PyData.keyHash P "joined", .str "joined" 827, (.ref 512)⟩, ⟨PyData.keyHash P "__static_attributes__", .str "__static_attributes__" 828, (.ref 513)⟩, ⟨PyData.keyHash P "__doc__", .str "__doc__" 829, .none⟩] 2), #[]⟩) :: (nat_lit 515, ⟨(.type "type"), none, (.cls ⟨"Twins", [(.ref 313)], [(.ref 515), (.ref 313), (.ref 236), (.type "object")], 514, "Twins", true, [], [], false, none, false⟩), #[(some (.ref 464)), none, (some (.str "Twins" 766)), (some (.str "Twins" 774)), (some (.builtin "object.__new__")), (some (.bool true))]⟩) :: (nat_lit 518, ⟨(.type "tuple"), none, (.seq #[] 0), #[]⟩) :: (nat_lit 520, ⟨(.type "tuple"), none, (.seq #[(.str "_law_script" 837), (.str "_law_k" 838)] 0), #[]⟩) :: (nat_lit 521, ⟨(.type "tuple"), none, (.seq #[] 0), #[]⟩) :: (nat_lit 523, ⟨(.type "code"), none, (.fields #[(.str "_law_cell_at" 834), (.str "_law_cell_at" 835), (.str "/claim/cut.py" 836), (.int 206 0), (.int 2 0), (.int 0 0), (.int 0 0), (.int 3 0), (.ref 518), (.bool true), (.int 181 0), (.ref 519), .none, (.ref 520), (.ref 521), (.ref 522), (.int 839 0), (.int 206 0), (.str "/claim/cut.py" 840)]), #[]⟩) :: (nat_lit 524, ⟨(.type "function"), none, (.func (fnOf "_law_cell_at" "_law_cell_at" (defArgs (top 29)) (defBody (top 29)) (defScope (top 29)) .none .none .none (.str "law_countkin_k11_led_by_parts" 832) none (.ref 523) .none)), #[]⟩) :: (nat_lit 525, ⟨(.type "tuple"), none, (.seq #[] 0), #[]⟩) :: (nat_lit 527, ⟨(.type "tuple"), none, (.seq #[(.str "_law_found" 845)] 0), #[]⟩) :: (nat_lit 528, ⟨(.type "tuple"), none, (.seq #[] 0), #[]⟩) :: (nat_lit 530, ⟨(.type "code"), none, (.fields #[(.str "_law_whole" 842), (.str "_law_whole" 843), (.str "/claim/cut.py" 844), (.int 210 0), (.int 1 0), (.int 0 0), (.int 0 0), (.int 3 0), (.ref 525), (.bool true), (.int 181 0), (.ref 526), .none, (.ref 527), (.ref 528), (.ref 529), (.int 846 0), (.int 210 0), (.str "/claim/cut.py" 847)]), #[]⟩) :: (nat_lit 531, ⟨(.type "function"), none, (.func (fnOf "_law_whole" "_law_whole" (defArgs (top 30)) (defBody (top 30)) (defScope (top 30)) .none .none .none (.str "law_countkin_k11_led_by_parts" 832) none (.ref 530) .none)), #[]⟩) :: (nat_lit 532, ⟨(.type "tuple"), none, (.seq #[] 0), #[]⟩) :: (nat_lit 534, ⟨(.type "tuple"), none, (.seq #[(.str "_law_cell" 852), (.str "_law_turn" 853), (.str "_law_number" 854)] 0), #[]⟩) :: (nat_lit 535, ⟨(.type "tuple"), none, (.seq #[] 0), #[]⟩) :: (nat_lit 537, ⟨(.type "code"), none, (.fields #[(.str "_law_mix" 849), (.str "_law_mix" 850), (.str "/claim/cut.py" 851), (.int 212 0), (.int 2 0), (.int 0 0), (.int 0 0), (.int 3 0), (.ref 532), (.bool true), (.int 181 0), (.ref 533), .none, (.ref 534), (.ref 535), (.ref 536), (.int 855 0), (.int 212 0), (.str "/claim/cut.py" 856)]), #[]⟩) :: (nat_lit 538, ⟨(.type "function"), none, (.func (fnOf "_law_mix" "_law_mix" (defArgs (top 31)) (defBody (top 31)) (defScope (top 31)) .none .none .none (.str "law_countkin_k11_led_by_parts" 832) none (.ref 537) .none)), #[]⟩) :: (nat_lit 539, ⟨(.type "tuple"), none, (.seq #[] 0), #[]⟩) :: (nat_lit 542, ⟨(.type "code"), none, (.fields #[(.str "_law_draws" 858), (.str "_law_draws" 859), (.str "/claim/cut.py" 860), (.int 215 0), (.int 3 0), (.int 0 0), (.int 0 0), (.int 3 0), (.ref 539), (.bool true), (.int 181 0), (.ref 540), .none, .none, .none, (.ref 541), (.int 861 0), (.int 215 0), (.str "/claim/cut.py" 862)]), #[]⟩) :: (nat_lit 543, ⟨(.type "function"), none, (.func (fnOf "_law_draws" "_law_draws" (defArgs (top 32)) (defBody (top 32)) (defScope (top 32)) .none .none .none (.str "law_countkin_k11_led_by_parts" 832) none (.ref 542) .none)), #[]⟩) :: (nat_lit 544, ⟨(.type "tuple"), none, (.seq #[] 0), #[]⟩) :: (nat_lit 546, ⟨(.type "tuple"), none, (.seq #[(.str "_law_script" 867), (.str "_law_size" 868), (.str "_law_turn" 869), (.str "_law_draws_here" 870), (.str "_law_lean" 871), (.str "_law_signs" 872), (.str "_law_ups" 873), (.str "_law_k" 874), (.str "_law_height" 875), (.str "_law_up" 876)] 0), #[]⟩) :: (nat_lit 547, ⟨(.type "tuple"), none, (.seq #[] 0), #[]⟩) :: (nat_lit 549, ⟨(.type "code"), none, (.fields #[(.str "_law_text_by" 864), (.str "_law_text_by" 865), (.str "/claim/cut.py" 866), (.int 229 0), (.int 3 0), (.int 0 0), (.int 0 0), (.int 3 0), (.ref 544), (.bool true), (.int 181 0), (.ref 545), .none, (.ref 546), (.ref 547), (.ref 548), (.int 877 0), (.int 229 0), (.str "/claim/cut.py" 878)]), #[]⟩) :: (nat_lit 550, ⟨(.type "function"), none, (.func (fnOf "_law_text_by" "_law_text_by" (defArgs (top 33)) (defBody (top 33)) (defScope (top 33)) .none .none .none (.str "law_countkin_k11_led_by_parts" 832) none (.ref 549) .none)), #[]⟩) :: (nat_lit 551, ⟨(.type "tuple"), none, (.seq #[] 0), #[]⟩) :: (nat_lit 553, ⟨(.type "tuple"), none, (.seq #[(.str "_law_found" 883), (.str "_law_due" 884), (.str "_law_k" 885)] 0), #[]⟩) :: (nat_lit 554, ⟨(.type "tuple"), none, (.seq #[] 0), #[]⟩) :: (nat_lit 556, ⟨(.type "code"), none, (.fields #[(.str "_law_numbers" 880), (.str "_law_numbers" 881), (.str "/claim/cut.py" 882), (.int 247 0), (.int 2 0), (.int 0 0), (.int 0 0), (.int 3 0), (.ref 551), (.bool true), (.int 181 0), (.ref 552), .none, (.ref 553), (.ref 554), (.ref 555), (.int 886 0), (.int 247 0), (.str "/claim/cut.py" 887)]), #[]⟩) :: (nat_lit 557, ⟨(.type "function"), none, (.func (fnOf "_law_numbers" "_law_numbers" (defArgs (top 34)) (defBody (top 34)) (defScope (top 34)) .none .none .none (.str "law_countkin_k11_led_by_parts" 832) none (.ref 556) .none)), #[]⟩) :: (nat_lit 558, ⟨(.type "tuple"), none, (.seq #[] 0), #[]⟩) :: (nat_lit 560, ⟨(.type "tuple"), none, (.seq #[(.str "_law_text" 892), (.str "_law_pile" 893), (.str "_law_here" 894), (.str "_law_k" 895)] 0), #[]⟩) :: (nat_lit 561, ⟨(.type "tuple"), none, (.seq #[] 0), #[]⟩) :: (nat_lit 563, ⟨(.type "code"), none, (.fields #[(.str "_law_twins_by" 889), (.str "_law_twins_by" 890), (.str "/claim/cut.py" 891), (.int 254 0), (.int 1 0), (.int 0 0), (.int 0 0), (.int 3 0), (.ref 558), (.bool true), (.int 181 0), (.ref 559), .none, (.ref 560), (.ref 561), (.ref 562), (.int 896 0), (.int 254 0), (.str "/claim/cut.py" 897)]), #[]⟩) :: (nat_lit 564, ⟨(.type "function"), none, (.func (fnOf "_law_twins_by" "_law_twins_by" (defArgs (top 35)) (defBody (top 35)) (defScope (top 35)) .none .none .none (.str "law_countkin_k11_led_by_parts" 832) none (.ref 563) .none)), #[]⟩) :: (nat_lit 565, ⟨(.type "tuple"), none, (.seq #[] 0), #[]⟩) :: (nat_lit 567, ⟨(.type "tuple"), none, (.seq #[(.str "_law_found" 902), (.str "_law_due" 903), (.str "_law_k" 904)] 0), #[]⟩) :: (nat_lit 568, ⟨(.type "tuple"), none, (.seq #[] 0), #[]⟩) :: (nat_lit 570, ⟨(.type "code"), none, (.fields #[(.str "_law_same_twins" 899), (.str "_law_same_twins" 900), (.str "/claim/cut.py" 901), (.int 264 0), (.int 2 0), (.int 0 0), (.int 0 0), (.int 3 0), (.ref 565), (.bool true), (.int 181 0), (.ref 566), .none, (.ref 567), (.ref 568), (.ref 569), (.int 905 0), (.int 264 0), (.str "/claim/cut.py" 906)]), #[]⟩) :: (nat_lit 571, ⟨(.type "function"), none, (.func (fnOf "_law_same_twins" "_law_same_twins" (defArgs (top 36)) (defBody (top 36)) (defScope (top 36)) .none .none .none (.str "law_countkin_k11_led_by_parts" 832) none (.ref 570) .none)), #[]⟩) :: (nat_lit 572, ⟨(.type "tuple"), none, (.seq #[] 0), #[]⟩) :: (nat_lit 574, ⟨(.type "tuple"), none, (.seq #[(.str "_law_error" 911), (.str "_law_found" 912)] 0), #[]⟩) :: (nat_lit 575, ⟨(.type "tuple"), none, (.seq #[] 0), #[]⟩) :: (nat_lit 577, ⟨(.type "code"), none, (.fields #[(.str "_law_classes" 908), (.str "_law_classes" 909), (.str "/claim/cut.py" 910), (.int 271 0), (.int 1 0), (.int 0 0), (.int 0 0), (.int 3 0), (.ref 572), (.bool true), (.int 181 0), (.ref 573), .none, (.ref 574), (.ref 575), (.ref 576), (.int 913 0), (.int 271 0), (.str "/claim/cut.py" 914)]), #[]⟩) :: (nat_lit 578, ⟨(.type "function"), none, (.func (fnOf "_law_classes" "_law_classes" (defArgs (top 37)) (defBody (top 37)) (defScope (top 37)) .none .none .none (.str "law_countkin_k11_led_by_parts" 832) none (.ref 577) .none)), #[]⟩) :: (nat_lit 579, ⟨(.type "tuple"), none, (.seq #[] 0), #[]⟩) :: (nat_lit 581, ⟨(.type "tuple"), none, (.seq #[(.str "_law_text" 919), (.str "_law_height" 920), (.str "_law_sign" 921)] 0), #[]⟩) :: (nat_lit 582, ⟨(.type "tuple"), none, (.seq #[] 0), #[]⟩) :: (nat_lit 584, ⟨(.type "code"), none, (.fields #[(.str "_law_closes" 916), (.str "_law_closes" 917), (.str "/claim/cut.py" 918), (.int 286 0), (.int 1 0), (.int 0 0), (.int 0 0), (.int 3 0), (.ref 579), (.bool true), (.int 181 0), (.ref 580), .none, (.ref 581), (.ref 582), (.ref 583), (.int 922 0), (.int 286 0), (.str "/claim/cut.py" 923)]), #[]⟩) :: (nat_lit 585, ⟨(.type "function"), none, (.func (fnOf "_law_closes" "_law_closes" (defArgs (top 38)) (defBody (top 38)) (defScope (top 38)) .none .none .none (.str "law_countkin_k11_led_by_parts" 832) none (.ref 584) .none)), #[]⟩) :: (nat_lit 586, ⟨(.type "tuple"), none, (.seq #[] 0), #[]⟩) :: (nat_lit 588, ⟨(.type "tuple"), none, (.seq #[(.str "_law_row" 928), (.str "_law_k" 929)] 0), #[]⟩) :: (nat_lit 589, ⟨(.type "tuple"), none, (.seq #[] 0), #[]⟩) :: (nat_lit 591, ⟨(.type "code"), none, (.fields #[(.str "_law_is_stairs" 925), (.str "_law_is_stairs" 926), (.str "/claim/cut.py" 927), (.int 298 0), (.int 1 0), (.int 0 0), (.int 0 0), (.int 3 0), (.ref 586), (.bool true), (.int 181 0), (.ref 587), .none, (.ref 588), (.ref 589), (.ref 590), (.int 930 0), (.int 298 0), (.str "/claim/cut.py" 931)]), #[]⟩) :: (nat_lit 592, ⟨(.type "function"), none, (.func (fnOf "_law_is_stairs" "_law_is_stairs" (defArgs (top 39)) (defBody (top 39)) (defScope (top 39)) .none .none .none (.str "law_countkin_k11_led_by_parts" 832) none (.ref 591) .none)), #[]⟩) :: (nat_lit 593, ⟨(.type "tuple"), none, (.seq #[] 0), #[]⟩) :: (nat_lit 595, ⟨(.type "tuple"), none, (.seq #[(.str "_law_text" 936), (.str "_law_cell" 937), (.str "_law_number" 938), (.str "_law_at" 939), (.str "_law_other" 940), (.str "_law_kind" 941), (.str "_law_signs" 942)] 0), #[]⟩) :: (nat_lit 596, ⟨(.type "tuple"), none, (.seq #[] 0), #[]⟩) :: (nat_lit 598, ⟨(.type "code"), none, (.fields #[(.str "_law_spoiled_text" 933), (.str "_law_spoiled_text" 934), (.str "/claim/cut.py" 935), (.int 303 0), (.int 2 0), (.int 0 0), (.int 0 0), (.int 3 0), (.ref 593), (.bool true), (.int 181 0), (.ref 594), .none, (.ref 595), (.ref 596), (.ref 597), (.int 943 0), (.int 303 0), (.str "/claim/cut.py" 944)]), #[]⟩) :: (nat_lit 599, ⟨(.type "function"), none, (.func (fnOf "_law_spoiled_text" "_law_spoiled_text" (defArgs (top 40)) (defBody (top 40)) (defScope (top 40)) .none .none .none (.str "law_countkin_k11_led_by_parts" 832) none (.ref 598) .none)), #[]⟩) :: (nat_lit 600, ⟨(.type "tuple"), none, (.seq #[] 0), #[]⟩) :: (nat_lit 602, ⟨(.type "tuple"), none, (.seq #[(.str "_law_row" 949), (.str "_law_cell" 950), (.str "_law_far" 951), (.str "_law_at" 952), (.str "_law_number" 953)] 0), #[]⟩) :: (nat_lit 603, ⟨(.type "tuple"), none, (.seq #[] 0), #[]⟩) :: (nat_lit 605, ⟨(.type "code"), none, (.fields #[(.str "_law_spoiled_row" 946), (.str "_law_spoiled_row" 947), (.str "/claim/cut.py" 948), (.int 318 0), (.int 3 0), (.int 0 0), (.int 0 0), (.int 3 0), (.ref 600), (.bool true), (.int 181 0), (.ref 601), .none, (.ref 602), (.ref 603), (.ref 604), (.int 954 0), (.int 318 0), (.str "/claim/cut.py" 955)]), #[]⟩) :: (nat_lit 606, ⟨(.type "function"), none, (.func (fnOf "_law_spoiled_row" "_law_spoiled_row" (defArgs (top 41)) (defBody (top 41)) (defScope (top 41)) .none .none .none (.str "law_countkin_k11_led_by_parts" 832) none (.ref 605) .none)), #[]⟩) :: (nat_lit 607, ⟨(.type "tuple"), none, (.seq #[] 0), #[]⟩) :: (nat_lit 609, ⟨(.type "tuple"), none, (.seq #[(.str "_law_way" 960)] 0), #[]⟩) :: (nat_lit 610, ⟨(.type "tuple"), none, (.seq #[] 0), #[]⟩) :: (nat_lit 612, ⟨(.type "code"), none, (.fields #[(.str "_law_kin" 957), (.str "_law_kin" 958), (.str "/claim/cut.py" 959), (.int 322 0), (.int 1 0), (.int 0 0), (.int 0 0), (.int 3 0), (.ref 607), (.bool true), (.int 181 0), (.ref 608), .none, (.ref 609), (.ref 610), (.ref 611), (.int 961 0), (.int 322 0), (.str "/claim/cut.py" 962)]), #[]⟩) :: (nat_lit 613, ⟨(.type "function"), none, (.func (fnOf "_law_kin" "_law_kin" (defArgs (top 42)) (defBody (top 42)) (defScope (top 42)) .none .none .none (.str "law_countkin_k11_led_by_parts" 832) none (.ref 612) .none)), #[]⟩) :: (nat_lit 614, ⟨(.type "tuple"), none, (.seq #[] 0), #[]⟩) :: (nat_lit 617, ⟨(.type "code"), none, (.fields #[(.str "_law_thing" 964), (.str "_law_thing" 965), (.str "/claim/cut.py" 966), (.int 328 0), (.int 2 0), (.int 0 0), (.int 0 0), (.int 3 0), (.ref 614), (.bool true), (.int 181 0), (.ref 615), .none, .none, .none, (.ref 616), (.int 967 0), (.int 328 0), (.str "/claim/cut.py" 968)]), #[]⟩) :: (nat_lit 618, ⟨(.type "function"), none, (.func (fnOf "_law_thing" "_law_thing" (defArgs (top 43)) (defBody (top 43)) (defScope (top 43)) .none .none .none (.str "law_countkin_k11_led_by_parts" 832) none (.ref 617) .none)), #[]⟩) :: (nat_lit 619, ⟨(.type "tuple"), none, (.seq #[] 0), #[]⟩) :: (nat_lit 621, ⟨(.type "tuple"), none, (.seq #[(.str "_law_way" 973), (.str "_law_found" 974), (.str "_law_due" 975)] 0), #[]⟩) :: (nat_lit 622, ⟨(.type "tuple"), none, (.seq #[] 0), #[]⟩) :: (nat_lit 624, ⟨(.type "code"), none, (.fields #[(.str "_law_same" 970), (.str "_law_same" 971), (.str "/claim/cut.py" 972), (.int 334 0), (.int 3 0), (.int 0 0), (.int 0 0), (.int 3 0), (.ref 619), (.bool true), (.int 181 0), (.ref 620), .none, (.ref 621), (.ref 622), (.ref 623), (.int 976 0), (.int 334 0), (.str "/claim/cut.py" 977)]), #[]⟩) :: (nat_lit 625, ⟨(.type "function"), none, (.func (fnOf "_law_same" "_law_same" (defArgs (top 44)) (defBody (top 44)) (defScope (top 44)) .none .none .none (.str "law_countkin_k11_led_by_parts" 832) none (.ref 624) .none)), #[]⟩) :: (nat_lit 626, ⟨(.type "tuple"), none, (.seq #[] 0), #[]⟩) :: (nat_lit 628, ⟨(.type "tuple"), none, (.seq #[(.str "_law_way" 982), (.str "_law_other" 983), (.str "_law_thing_here" 984), (.str "_law_kept" 985), (.str "e" 986)] 0), #[]⟩) :: (nat_lit 629, ⟨(.type "tuple"), none, (.seq #[] 0), #[]⟩) :: (nat_lit 631, ⟨(.type "code"), none, (.fields #[(.str "_law_refused" 979), (.str "_law_refused" 980), (.str "/claim/cut.py" 981), (.int 340 0), (.int 3 0), (.int 0 0), (.int 0 0), (.int 3 0), (.ref 626), (.bool true), (.int 181 0), (.ref 627), .none, (.ref 628), (.ref 629), (.ref 630), (.int 987 0), (.int 340 0), (.str "/claim/cut.py" 988)]), #[]⟩) :: (nat_lit 632, ⟨(.type "function"), none, (.func (fnOf "_law_refused" "_law_refused" (defArgs (top 45)) (defBody (top 45)) (defScope (top 45)) .none .none .none (.str "law_countkin_k11_led_by_parts" 832) none (.ref 631) .none)), #[]⟩) :: (nat_lit 633, ⟨(.type "tuple"), none, (.seq #[] 0), #[]⟩) :: (nat_lit 635, ⟨(.type "tuple"), none, (.seq #[(.str "_law_script" 993), (.str "_law_way" 994), (.str "_law_other" 995), (.str "_law_text" 996), (.str "_law_thing_here" 997), (.str "_law_handed" 998), (.str "_law_found" 999)] 0), #[]⟩) :: (nat_lit 636, ⟨(.type "tuple"), none, (.seq #[] 0), #[]⟩) :: (nat_lit 638, ⟨(.type "code"), none, (.fields #[(.str "law" 990), (.str "law" 991), (.str "/claim/cut.py" 992), (.int 347 0), (.int 1 0), (.int 0 0), (.int 0 0), (.int 3 0), (.ref 633), (.bool true), (.int 181 0), (.ref 634), .none, (.ref 635), (.ref 636), (.ref 637), (.int 1000 0), (.int 347 0), (.str "/claim/cut.py" 1001)]), #[]⟩) :: (nat_lit 639, ⟨(.type "function"), none, (.func (fnOf "law" "law" (defArgs (top 46)) (defBody (top 46)) (defScope (top 46)) .none .none .none (.str "law_countkin_k11_led_by_parts" 832) none (.ref 638) .none)), #[]⟩) :: []
noncomputable def hA : List Addr := (2 :: 3 :: 15 :: 17 :: 18 :: 20 :: 21 :: 22 :: 29 :: 30 :: 31 :: 32 :: 35 :: 42 :: 43 :: 44 :: 47 :: 54 :: 55 :: 56 :: 59 :: 66 :: 67 :: 68 :: 71 :: 78 :: 79 :: 80 :: 83 :: 90 :: 91 :: 92 :: 95 :: 102 :: 103 :: 104 :: 107 :: 114 :: 115 :: 116 :: 119 :: 126 :: 127 :: 128 :: 131 :: 138 :: 140 :: 141 :: 143 :: 144 :: 145 :: 146 :: 147 :: 157 :: 159 :: 160 :: 162 :: 163 :: 164 :: 166 :: 167 :: 169 :: 170 :: 171 :: 173 :: 174 :: 176 :: 177 :: 178 :: 180 :: 181 :: 183 :: 184 :: 185 :: 187 :: 188 :: 190 :: 191 :: 192 :: 194 :: 195 :: 197 :: 198 :: 199 :: 201 :: 202 :: 204 :: 205 :: 206 :: 208 :: 209 :: 211 :: 212 :: 213 :: 215 :: 216 :: 218 :: 219 :: 220 :: 222 :: 223 :: 225 :: 226 :: 227 :: 229 :: 230 :: 232 :: 233 :: 234 :: 235 :: 236 :: 237 :: 238 :: 241 :: 248 :: 250 :: 251 :: 253 :: 254 :: 255 :: 257 :: 258 :: 260 :: 261 :: 262 :: 264 :: 265 :: 267 :: 268 :: 269 :: 271 :: 272 :: 274 :: 275 :: 276 :: 278 :: 279 :: 281 :: 282 :: 283 :: 285 :: 286 :: 288 :: 289 :: 290 :: 292 :: 293 :: 295 :: 296 :: 297 :: 299 :: 300 :: 302 :: 303 :: 304 :: 306 :: 307 :: 309 :: 310 :: 311 :: 312 :: 313 :: 316 :: 318 :: 319 :: 321 :: 322 :: 323 :: 325 :: 326 :: 328 :: 329 :: 330 :: 333 :: 334 :: 335 :: 337 :: 338 :: 340 :: 341 :: 342 :: 349 :: 351 :: 352 :: 354 :: 355 :: 356 :: 358 :: 359 :: 361 :: 362 :: 363 :: 365 :: 366 :: 368 :: 369 :: 370 :: 372 :: 373 :: 375 :: 376 :: 377 :: 379 :: 380 :: 382 :: 383 :: 384 :: 386 :: 387 :: 389 :: 390 :: 391 :: 392 :: 393 :: 396 :: 398 :: 399 :: 401 :: 402 :: 403 :: 410 :: 412 :: 413 :: 415 :: 416 :: 417 :: 419 :: 420 :: 422 :: 423 :: 424 :: 426 :: 427 :: 429 :: 430 :: 431 :: 433 :: 434 :: 436 :: 437 :: 438 :: 440 :: 441 :: 443 :: 444 :: 445 :: 447 :: 448 :: 450 :: 451 :: 452 :: 453 :: 454 :: 457 :: 459 :: 460 :: 462 :: 463 :: 464 :: 471 :: 473 :: 474 :: 476 :: 477 :: 478 :: 480 :: 481 :: 483 :: 484 :: 485 :: 487 :: 488 :: 490 :: 491 :: 492 :: 494 :: 495 :: 497 :: 498 :: 499 :: 501 :: 502 :: 504 :: 505 :: 506 :: 508 :: 509 :: 511 :: 512 :: 513 :: 514 :: 515 :: 518 :: 520 :: 521 :: 523 :: 524 :: 525 :: 527 :: 528 :: 530 :: 531 :: 532 :: 534 :: 535 :: 537 :: 538 :: 539 :: 542 :: 543 :: 544 :: 546 :: 547 :: 549 :: 550 :: 551 :: 553 :: 554 :: 556 :: 557 :: 558 :: 560 :: 561 :: 563 :: 564 :: 565 :: 567 :: 568 :: 570 :: 571 :: 572 :: 574 :: 575 :: 577 :: 578 :: 579 :: 581 :: 582 :: 584 :: 585 :: 586 :: 588 :: 589 :: 591 :: 592 :: 593 :: 595 :: 596 :: 598 :: 599 :: 600 :: 602 :: 603 :: 605 :: 606 :: 607 :: 609 :: 610 :: 612 :: 613 :: 614 :: 617 :: 618 :: 619 :: 621 :: 622 :: 624 :: 625 :: 626 :: 628 :: 629 :: 631 :: 632 :: 633 :: 635 :: 636 :: 638 :: 639 :: [])
noncomputable abbrev hX : Shared → Bool := (fun s => xlAt hQ [] s && recOk (RowW.records (OpenRow.toRowW (OpenLaw.row PySem.Challenge.rw_countkin_k11_led_by_parts))) s)
theorem hKA : ∀ P : Params, hA = (hK P).map (·.1) := fun _ => by kernel_rfl
noncomputable abbrev hH : Hook := kHook hK hA hKA
noncomputable def hLook (P : Params) (s : Shared) := ((staticsOk (importedModules PySem.Challenge.pw_countkin_k11_led_by_parts.main.body) (boot_heap P) s.heap && namesBound PySem.Challenge.pw_countkin_k11_led_by_parts s.heap && gensDone s && laidKept (boot_heap P) s.heap), openSeen hQ hL (importedModules PySem.Challenge.pw_countkin_k11_led_by_parts.main.body) hX true s, hA.map s.heap.get?)
noncomputable def hPreF (w : World) (os : OsState) := topGo treeTable PySem.Challenge.pw_countkin_k11_led_by_parts w 11 (some (.ref 6)) 12 ⟨boot_heap w.params, Array.mk [], boot_drawn, boot_toks, os⟩ (topStub PySem.Challenge.pw_countkin_k11_led_by_parts)
noncomputable def hPreG (w : World) (os : OsState) : Option (Shared × Thread) := some ((hS w os).abs, ⟨denote treeTable hC, hC, ⟨0, 0, 0, 0⟩, [topFrame ⟨0, 0, 0, 0⟩]⟩)
noncomputable def hBlkF (w : World) (os : OsState) := segRun treeTable PySem.Challenge.pw_countkin_k11_led_by_parts w 11 (some (.ref 6)) 1 1 (hS w os).abs (blockOf hB hE hC ⟨0, 0, 0, 0⟩ [topFrame ⟨0, 0, 0, 0⟩])
noncomputable def hBlkG (w : World) (os : OsState) : Option (Flow × Shared × Code × Pos) := some (.next, (hS w os).abs, hC, ⟨0, 0, 0, 0⟩)
noncomputable def hRunF (w : World) (os : OsState) := (segRunT treeTable PySem.Challenge.pw_countkin_k11_led_by_parts w 11 (some (.ref 6)) 1 5281 (hS w os) (piecesOf hB hE hC ⟨0, 0, 0, 0⟩ [topFrame ⟨0, 0, 0, 0⟩])).map (lookEnd treeTable PySem.Challenge.pw_countkin_k11_led_by_parts w 11 (some (.ref 6)) ⟨0, 0, 0, 0⟩ hC 2 (hLook w.params))
noncomputable def hRunG (w : World) (_ : OsState) := some (Flow.next, hC, some (true, openGood hQ hL, (hK w.params).map fun p => some p.2))
noncomputable def hSizF (w : World) := ((boot_heap w.params).isNs mainGlobals && (Array.mk [] : Array GenState).size == 0, (boot_heap w.params).objs.size, (boot_heap w.params).nsMap mainGlobals "__annotations__")
noncomputable def hSizG (_ : World) : Bool × Nat × Option Value := (true, 11, (some (.ref 6)))
theorem hSeed : (fun _ _ _ _ _ _ _ _ => true) hPreF hPreG hBlkF hBlkG hRunF hRunG hSizF hSizG = true := by k_qdec
theorem hPre : hPreF = hPreG := Eq.trans PySem.W.Fast.te5317814654954331368 (Eq.trans (by kernel_rfl) (Eq.symm PySem.W.Fast.te14277440360295502494))
theorem hBlk : hBlkF = hBlkG := Eq.trans PySem.W.Fast.te2033988648308832629 (Eq.trans (by kernel_rfl) (Eq.symm PySem.W.Fast.te1798457917166677164))
theorem hRun : hRunF = hRunG := Eq.trans PySem.W.Fast.te6412348297585774662 (Eq.trans (by kernel_rfl) (Eq.symm PySem.W.Fast.te15447895654253735931))
theorem hSiz : hSizF = hSizG := Eq.trans PySem.W.Fast.te13693962943478796877 (by kernel_rfl)
theorem hLeft : LeftO PySem.Challenge.pw_countkin_k11_led_by_parts hQ hL hX (Hook.obs hH) (Hook.val hH) 10686 :=
  left_whole (boot_open (by kernel_rfl) (by decide) (fun _ => by kernel_rfl)) (fun w => congrFun hSiz w)
    (fun w os => run_whole (b := hB) (env := hE) (L := hLook w.params) rfl (congrFun (congrFun hPre w) os) (congrFun (congrFun hBlk w) os) (congrFun (congrFun hRun w) os)) (by decide)
end Ck
open PySem PySem.W PyProof.Rows
set_option maxRecDepth 100000 in
set_option maxHeartbeats 0 in
theorem PySem.Challenge.cw_countkin_k11_led_by_parts_holds : PySem.Challenge.rw_countkin_k11_led_by_parts.Holds := by
  w_on; o_law
  refine holds_open (q := Ck.hQ) (loose := Ck.hL) (Xt := Ck.hX) (XP := XL Ck.hQ []) (Yf := Hook.obs (kHook Ck.hK Ck.hA Ck.hKA)) (Ya := Hook.val (kHook Ck.hK Ck.hA Ck.hKA)) (YP := Hook.says (kHook Ck.hK Ck.hA Ck.hKA)) (N := 10686) Ck.hLeft (Hook.of (kHook Ck.hK Ck.hA Ck.hKA)) (Hook.keeps (kHook Ck.hK Ck.hA Ck.hKA))
    (fun s e => xl_of s (Bool.and_eq_true_iff.mp e).1) XL.keeps (by rfl) (by rfl) (by rfl) (fun s e => recFacts_of (Bool.and_eq_true_iff.mp e).2) (by rfl) (by first | assumption | decide +kernel) (by decide +kernel) ⟨rfl, rfl, rfl, rfl, rfl, by decide +kernel⟩ ?hw ?hc
  case hw => w_witness2
  k_fill
  refine Ck.walk (l := PySem.Challenge.rw_countkin_k11_led_by_parts) rfl rfl (fun w h Y => PySem.W.kIn_of Y) ?F
  case F =>
    intro w mg fa h KX G hmg
    refine' Ck.all_mk KX G hmg ?nc_Brackets ?nc_Stairs ?nc_Twins ?nc_SplitFamily ?nc_Family ?a_Brackets_refuse_other ?a_Stairs_refuse_other ?a_Twins_refuse_other ?a_Brackets_is_one ?a_Stairs_is_one ?a_Twins_is_one ?a_Brackets_size_of ?a_Stairs_size_of ?a_Twins_size_of ?a_Brackets_bare ?a_Stairs_bare ?a_Twins_bare ?a_Brackets_parted ?a_Stairs_parted ?a_Twins_parted ?a_Brackets_joined ?a_Stairs_joined ?a_Twins_joined ?ai_Brackets ?ai_Stairs ?ai_Twins ?ch_SplitFamily___init___Brackets ?cg_SplitFamily___init___Brackets ?cr_SplitFamily___init___Brackets ?ch_Family___init___Brackets ?cg_Family___init___Brackets ?cr_Family___init___Brackets ?ch_SplitFamily___init___Stairs ?cg_SplitFamily___init___Stairs ?cr_SplitFamily___init___Stairs ?ch_Family___init___Stairs ?cg_Family___init___Stairs ?cr_Family___init___Stairs ?ch_SplitFamily___init___Twins ?cg_SplitFamily___init___Twins ?cr_SplitFamily___init___Twins ?ch_Family___init___Twins ?cg_Family___init___Twins ?cr_Family___init___Twins ?a1 ?l1 ?c1 ?k1 ?a2 ?l2 ?c2 ?k2 ?a3 ?l3 ?c3 ?k3 ?a4 ?l4 ?c4 ?k4 ?a5 ?l5 ?c5 ?k5 ?a6 ?l6 ?c6 ?k6 ?a7 ?l7 ?c7 ?k7 ?a8 ?l8 ?c8 ?k8 ?a9 ?l9 ?c9 ?k9 ?a10 ?l10 ?c10 ?k10 ?a11 ?l11 ?c11 ?k11 ?l12 ?c12 ?k12 ?i12 ?l13 ?c13 ?k13 ?i13 ?l14 ?c14 ?k14 ?i14 ?l15 ?c15 ?k15 ?i15 ?l16 ?c16 ?k16 ?i16 ?l17 ?c17 ?k17 ?i17 ?l18 ?c18 ?k18 ?i18 ?l19 ?c19 ?k19 ?i19 ?l20 ?c20 ?k20 ?i20 ?l21 ?c21 ?k21 ?i21 ?l22 ?c22 ?k22 ?i22 ?l23 ?c23 ?k23 ?i23 ?a24 ?l24 ?c24 ?k24 ?l25 ?c25 ?k25 ?i25 ?a26 ?l26 ?c26 ?k26 ?a27 ?l27 ?c27 ?k27 ?l28 ?c28 ?k28 ?i28 ?l29 ?c29 ?k29 ?i29 ?l30 ?c30 ?k30 ?i30 ?l31 ?c31 ?k31 ?i31 ?l32 ?c32 ?k32 ?i32 ?a33 ?l33 ?c33 ?k33 ?a34 ?l34 ?c34 ?k34 ?l35 ?c35 ?k35 ?i35 ?l36 ?c36 ?k36 ?i36 ?l37 ?c37 ?k37 ?i37 ?l38 ?c38 ?k38 ?i38 ?l39 ?c39 ?k39 ?i39 ?l40 ?c40 ?k40 ?i40 ?l41 ?c41 ?k41 ?i41 ?l42 ?c42 ?k42 ?i42 ?l43 ?c43 ?k43 ?i43 ?a44 ?l44 ?c44 ?k44 ?a45 ?l45 ?c45 ?k45 ?a46 ?l46 ?c46 ?k46 ?a47 ?l47 ?c47 ?k47 ?a48 ?l48 ?c48 ?k48 ?a49 ?l49 ?c49 ?k49 ?a50 ?l50 ?c50 ?k50 ?a51 ?l51 ?c51 ?k51 ?pg_Brackets ?hd_Brackets ?po_Brackets ?sa_Brackets ?pg_Stairs ?hd_Stairs ?po_Stairs ?sa_Stairs ?pg_Twins ?hd_Twins ?po_Twins ?sa_Twins ?mk_Brackets ?kc_Brackets ?mk_Stairs ?kc_Stairs ?mk_Twins ?kc_Twins ?na_Brackets_word ?na_Brackets_least ?na_Stairs_word ?na_Stairs_least ?na_Twins_word ?na_Twins_least ?z_len ?z_range ?z_list ?z_enumerate ?z_isinstance ?z_ValueError ?z_int ?z_bool ?z_tuple ?z_str ?n_kin ?n_size ?n_number ?n_thing ?n_family ?n_way ?n_apart ?n_mark ?n_text ?n_broken ?t_err
    (case nc_Brackets => k_is)
    (case nc_Stairs => k_is)
    (case nc_Twins => k_is)
    (case nc_SplitFamily => k_is)
    (case nc_Family => k_is)
    (case a_Brackets_refuse_other => k_is)
    (case a_Stairs_refuse_other => k_is)
    (case a_Twins_refuse_other => k_is)
    (case a_Brackets_is_one => k_is)
    (case a_Stairs_is_one => k_is)
    (case a_Twins_is_one => k_is)
    (case a_Brackets_size_of => k_is)
    (case a_Stairs_size_of => k_is)
    (case a_Twins_size_of => k_is)
    (case a_Brackets_bare => k_is)
    (case a_Stairs_bare => k_is)
    (case a_Twins_bare => k_is)
    (case a_Brackets_parted => k_is)
    (case a_Stairs_parted => k_is)
    (case a_Twins_parted => k_is)
    (case a_Brackets_joined => k_is)
    (case a_Stairs_joined => k_is)
    (case a_Twins_joined => k_is)
    (case ai_Brackets => k_is)
    (case ai_Stairs => k_is)
    (case ai_Twins => k_is)
    (case ch_SplitFamily___init___Brackets => k_is)
    (case cg_SplitFamily___init___Brackets => k_is)
    (case cr_SplitFamily___init___Brackets => k_is)
    (case ch_Family___init___Brackets => k_is)
    (case cg_Family___init___Brackets => k_is)
    (case cr_Family___init___Brackets => k_is)
    (case ch_SplitFamily___init___Stairs => k_is)
    (case cg_SplitFamily___init___Stairs => k_is)
    (case cr_SplitFamily___init___Stairs => k_is)
    (case ch_Family___init___Stairs => k_is)
    (case cg_Family___init___Stairs => k_is)
    (case cr_Family___init___Stairs => k_is)
    (case ch_SplitFamily___init___Twins => k_is)
    (case cg_SplitFamily___init___Twins => k_is)
    (case cr_SplitFamily___init___Twins => k_is)
    (case ch_Family___init___Twins => k_is)
    (case cg_Family___init___Twins => k_is)
    (case cr_Family___init___Twins => k_is)
    (case a1 => k_is)
    (case l1 => k_is)
    (case c1 => k_is)
    (case k1 => k_is)
    (case a2 => k_is)
    (case l2 => k_is)
    (case c2 => k_is)
    (case k2 => k_is)
    (case a3 => k_is)
    (case l3 => k_is)
    (case c3 => k_is)
    (case k3 => k_is)
    (case a4 => k_is)
    (case l4 => k_is)
    (case c4 => k_is)
    (case k4 => k_is)
    (case a5 => k_is)
    (case l5 => k_is)
    (case c5 => k_is)
    (case k5 => k_is)
    (case a6 => k_is)
    (case l6 => k_is)
    (case c6 => k_is)
    (case k6 => k_is)
    (case a7 => k_is)
    (case l7 => k_is)
    (case c7 => k_is)
    (case k7 => k_is)
    (case a8 => k_is)
    (case l8 => k_is)
    (case c8 => k_is)
    (case k8 => k_is)
    (case a9 => k_is)
    (case l9 => k_is)
    (case c9 => k_is)
    (case k9 => k_is)
    (case a10 => k_is)
    (case l10 => k_is)
    (case c10 => k_is)
    (case k10 => k_is)
    (case a11 => k_is)
    (case l11 => k_is)
    (case c11 => k_is)
    (case k11 => k_is)
    (case l12 => k_is)
    (case c12 => k_is)
    (case k12 => k_is)
    (case i12 => k_is)
    (case l13 => k_is)
    (case c13 => k_is)
    (case k13 => k_is)
    (case i13 => k_is)
    (case l14 => k_is)
    (case c14 => k_is)
    (case k14 => k_is)
    (case i14 => k_is)
    (case l15 => k_is)
    (case c15 => k_is)
    (case k15 => k_is)
    (case i15 => k_is)
    (case l16 => k_is)
    (case c16 => k_is)
    (case k16 => k_is)
    (case i16 => k_is)
    (case l17 => k_is)
    (case c17 => k_is)
    (case k17 => k_is)
    (case i17 => k_is)
    (case l18 => k_is)
    (case c18 => k_is)
    (case k18 => k_is)
    (case i18 => k_is)
    (case l19 => k_is)
    (case c19 => k_is)
    (case k19 => k_is)
    (case i19 => k_is)
    (case l20 => k_is)
    (case c20 => k_is)
    (case k20 => k_is)
    (case i20 => k_is)
    (case l21 => k_is)
    (case c21 => k_is)
    (case k21 => k_is)
    (case i21 => k_is)
    (case l22 => k_is)
    (case c22 => k_is)
    (case k22 => k_is)
    (case i22 => k_is)
    (case l23 => k_is)
    (case c23 => k_is)
    (case k23 => k_is)
    (case i23 => k_is)
    (case a24 => k_is)
    (case l24 => k_is)
    (case c24 => k_is)
    (case k24 => k_is)
    (case l25 => k_is)
    (case c25 => k_is)
    (case k25 => k_is)
    (case i25 => k_is)
    (case a26 => k_is)
    (case l26 => k_is)
    (case c26 => k_is)
    (case k26 => k_is)
    (case a27 => k_is)
    (case l27 => k_is)
    (case c27 => k_is)
    (case k27 => k_is)
    (case l28 => k_is)
    (case c28 => k_is)
    (case k28 => k_is)
    (case i28 => k_is)
    (case l29 => k_is)
    (case c29 => k_is)
    (case k29 => k_is)
    (case i29 => k_is)
    (case l30 => k_is)
    (case c30 => k_is)
    (case k30 => k_is)
    (case i30 => k_is)
    (case l31 => k_is)
    (case c31 => k_is)
    (case k31 => k_is)
    (case i31 => k_is)
    (case l32 => k_is)
    (case c32 => k_is)
    (case k32 => k_is)
    (case i32 => k_is)
    (case a33 => k_is)
    (case l33 => k_is)
    (case c33 => k_is)
    (case k33 => k_is)
    (case a34 => k_is)
    (case l34 => k_is)
    (case c34 => k_is)
    (case k34 => k_is)
    (case l35 => k_is)
    (case c35 => k_is)
    (case k35 => k_is)
    (case i35 => k_is)
    (case l36 => k_is)
    (case c36 => k_is)
    (case k36 => k_is)
    (case i36 => k_is)
    (case l37 => k_is)
    (case c37 => k_is)
    (case k37 => k_is)
    (case i37 => k_is)
    (case l38 => k_is)
    (case c38 => k_is)
    (case k38 => k_is)
    (case i38 => k_is)
    (case l39 => k_is)
    (case c39 => k_is)
    (case k39 => k_is)
    (case i39 => k_is)
    (case l40 => k_is)
    (case c40 => k_is)
    (case k40 => k_is)
    (case i40 => k_is)
    (case l41 => k_is)
    (case c41 => k_is)
    (case k41 => k_is)
    (case i41 => k_is)
    (case l42 => k_is)
    (case c42 => k_is)
    (case k42 => k_is)
    (case i42 => k_is)
    (case l43 => k_is)
    (case c43 => k_is)
    (case k43 => k_is)
    (case i43 => k_is)
    (case a44 => k_is)
    (case l44 => k_is)
    (case c44 => k_is)
    (case k44 => k_is)
    (case a45 => k_is)
    (case l45 => k_is)
    (case c45 => k_is)
    (case k45 => k_is)
    (case a46 => k_is)
    (case l46 => k_is)
    (case c46 => k_is)
    (case k46 => k_is)
    (case a47 => k_is)
    (case l47 => k_is)
    (case c47 => k_is)
    (case k47 => k_is)
    (case a48 => k_is)
    (case l48 => k_is)
    (case c48 => k_is)
    (case k48 => k_is)
    (case a49 => k_is)
    (case l49 => k_is)
    (case c49 => k_is)
    (case k49 => k_is)
    (case a50 => k_is)
    (case l50 => k_is)
    (case c50 => k_is)
    (case k50 => k_is)
    (case a51 => k_is)
    (case l51 => k_is)
    (case c51 => k_is)
    (case k51 => k_is)
    (case pg_Brackets => k_is)
    (case hd_Brackets => k_is)
    (case po_Brackets => k_is)
    (case sa_Brackets => k_is)
    (case pg_Stairs => k_is)
    (case hd_Stairs => k_is)
    (case po_Stairs => k_is)
    (case sa_Stairs => k_is)
    (case pg_Twins => k_is)
    (case hd_Twins => k_is)
    (case po_Twins => k_is)
    (case sa_Twins => k_is)
    (case mk_Brackets => k_is)
    (case kc_Brackets => k_is)
    (case mk_Stairs => k_is)
    (case kc_Stairs => k_is)
    (case mk_Twins => k_is)
    (case kc_Twins => k_is)
    (case na_Brackets_word => k_is)
    (case na_Brackets_least => k_is)
    (case na_Stairs_word => k_is)
    (case na_Stairs_least => k_is)
    (case na_Twins_word => k_is)
    (case na_Twins_least => k_is)
    (case z_len => k_is)
    (case z_range => k_is)
    (case z_list => k_is)
    (case z_enumerate => k_is)
    (case z_isinstance => k_is)
    (case z_ValueError => k_is)
    (case z_int => k_is)
    (case z_bool => k_is)
    (case z_tuple => k_is)
    (case z_str => k_is)
    (case n_kin => k_is)
    (case n_size => k_is)
    (case n_number => k_is)
    (case n_thing => k_is)
    (case n_family => k_is)
    (case n_way => k_is)
    (case n_apart => k_is)
    (case n_mark => k_is)
    (case n_text => k_is)
    (case n_broken => k_is)
    (case t_err => kernel_rfl)

