import PyProof.Rows.All
import Wide.All
import OpenK.AllK
import Wide.FinOn
import Lean
import PyProof.EqAt
import PyProof.EqKinds
import PyProof.TupleCall
import KE.KRevSl
import KE.KSortTup
import KE.KTryMore
import PyProof.ExcAttrAll.ValueError
import PyProof.NeKinds
import PySem.Challenge.RW_countkin_k17_rooms_parted
set_option Elab.async false
set_option linter.all false
set_option maxRecDepth 100000
/-! THE HAND LAYER, for ints, bools, texts, own classes, LISTS and tuples (index, slices, in, append, pop ..), calls, loops. Paste it whole ahead of your own text; what your proof does not reach may be deleted. -/
namespace L2
open PySem PySem.Spec PyProof.Rows

/-- a key: an int or a str -/
noncomputable abbrev Key := Sum Int Str
noncomputable def keyIs : Key → Value → Bool
  | .inl k, v => Value.isInt k v
  | .inr x, v => Value.isStrOf x v
noncomputable def keyH (w : World) : Key → Int
  | .inl k => hashInt k
  | .inr x => hashStr w x
theorem keyIs_shape : ∀ {k : Key} {v : Value}, keyIs k v = true → (∃ i t, k = Sum.inl i ∧ v = Value.int i t) ∨ (∃ x t, k = Sum.inr x ∧ v = Value.str x t)
  | .inl i, v, h => by
    obtain ⟨t, e⟩ := Value.isInt_shape (k := i) (v := v) h
    exact .inl ⟨i, t, rfl, e⟩
  | .inr x, v, h => by
    obtain ⟨t, e⟩ := Value.isStrOf_shape (x := x) (v := v) h
    exact .inr ⟨x, t, rfl, e⟩
theorem key_ll (a b : Int) : decide ((Sum.inl a : Key) = Sum.inl b) = (a == b) := by
  by_cases e : a = b
  · subst e; simp
  · have h : ¬ (Sum.inl a : Key) = Sum.inl b := fun q => e (Sum.inl.inj q)
    rw [decide_eq_false h]
    exact (beq_eq_false_iff_ne.mpr e).symm
theorem key_rr (a b : Str) : decide ((Sum.inr a : Key) = Sum.inr b) = decide (a = b) := by
  by_cases e : a = b
  · subst e; simp
  · have h : ¬ (Sum.inr a : Key) = Sum.inr b := fun q => e (Sum.inr.inj q)
    rw [decide_eq_false h, decide_eq_false e]
theorem key_lr (a : Int) (b : Str) : decide ((Sum.inl a : Key) = Sum.inr b) = false := decide_eq_false (fun q => nomatch q)
theorem key_rl (a : Str) (b : Int) : decide ((Sum.inr a : Key) = Sum.inl b) = false := decide_eq_false (fun q => nomatch q)

noncomputable def mixKind (prog : Program) (w : World) : PySem.KeyKind prog w Key where
  is := keyIs
  hash := keyH w
  inj := fun v a b ha hb => by
    rcases keyIs_shape ha with ⟨i, t, rfl, rfl⟩ | ⟨x, t, rfl, rfl⟩
    · rcases keyIs_shape hb with ⟨j, u, rfl, e⟩ | ⟨y, u, rfl, e⟩
      · injection e with e1 _; rw [e1]
      · exact nomatch e
    · rcases keyIs_shape hb with ⟨j, u, rfl, e⟩ | ⟨y, u, rfl, e⟩
      · exact nomatch e
      · injection e with e1 _; rw [e1]
  byValue := fun k v h => by
    rcases keyIs_shape h with ⟨i, t, rfl, rfl⟩ | ⟨x, t, rfl, rfl⟩ <;> rfl
  pyHash := fun hv h => by
    rcases keyIs_shape hv with ⟨i, t, rfl, rfl⟩ | ⟨x, t, rfl, rfl⟩
    · exact wpAny_pyHash_int h
    · exact wpAny_pyHash_str h
  eqBool := fun hu hv h => by
    rcases keyIs_shape hu with ⟨i, t, rfl, rfl⟩ | ⟨x, t, rfl, rfl⟩
    · rcases keyIs_shape hv with ⟨j, u, rfl, rfl⟩ | ⟨y, u, rfl, rfl⟩
      · rw [key_ll] at h; exact wpAny_eqBool_int h
      · rw [key_lr] at h; exact SeqAt.EqAt.int_str i t y u _ _ _ _ h
    · rcases keyIs_shape hv with ⟨j, u, rfl, rfl⟩ | ⟨y, u, rfl, rfl⟩
      · rw [key_rl] at h; exact SeqAt.EqAt.str_int x t j u _ _ _ _ h
      · rw [key_rr] at h; exact wpAny_eqBool_str h
  «strs» := fun k x t v h => by
    rcases keyIs_shape h with ⟨i, u, rfl, e⟩ | ⟨y, u, rfl, e⟩
    · exact nomatch e
    · injection e with e1 _
      subst e1
      cases v <;> rfl

end L2

namespace L2
open PySem PySem.Spec PyProof.Rows

/-- a value, without the heap -/
inductive V where
  | non | bl (b : Bool) | int (i : Int) | str (x : Str) | byt (b : Array UInt8) | flt (b : UInt64) | ref (a : Addr) | ty (n : String)
  deriving DecidableEq

noncomputable def RelV : V → Value → Prop
  | .non, u => u = Value.none
  | .bl b, u => u = Value.bool b
  | .int i, u => ∃ t, u = Value.int i t
  | .str x, u => ∃ t, u = Value.str x t
  | .byt b, u => ∃ t, u = Value.bytes b t
  | .flt b, u => ∃ t, u = Value.float b t
  | .ref a, u => u = Value.ref a
  | .ty n, u => u = Value.type n

noncomputable abbrev Vals : List V → List Value → Prop := Paired RelV
theorem Vals.length {xs : List V} {us : List Value} (r : Vals xs us) : xs.length = us.length := Paired.length r
theorem Vals.get : ∀ {xs : List V} {us : List Value} {i : Nat} {x : V}, Vals xs us → xs[i]? = some x → ∃ u, us[i]? = some u ∧ RelV x u
  | _, _, _, _, .nil, e => by simp at e
  | _, _, 0, _, .cons r _, e => by simp at e; subst e; exact ⟨_, rfl, r⟩
  | _, _, i + 1, x, .cons _ t, e => by
    obtain ⟨u, h1, h2⟩ := Vals.get (i := i) (x := x) t (by simpa using e)
    exact ⟨u, by simpa using h1, h2⟩
theorem Vals.set {x : V} {u : Value} (r : RelV x u) : ∀ {xs : List V} {us : List Value} (i : Nat), Vals xs us → Vals (xs.set i x) (us.set i u)
  | _, _, _, .nil => .nil
  | _, _, 0, .cons _ t => .cons r t
  | _, _, i + 1, .cons q t => .cons q (Vals.set r i t)
theorem Vals.append : ∀ {xs ys : List V} {us ws : List Value}, Vals xs us → Vals ys ws → Vals (xs ++ ys) (us ++ ws)
  | _, _, _, _, .nil, s => s
  | _, _, _, _, .cons r t, s => .cons r (Vals.append t s)
theorem Vals.take : ∀ {xs : List V} {us : List Value} (n : Nat), Vals xs us → Vals (xs.take n) (us.take n)
  | _, _, 0, _ => .nil
  | _, _, _ + 1, .nil => .nil
  | _, _, n + 1, .cons r t => .cons r (Vals.take n t)
theorem Vals.drop : ∀ {xs : List V} {us : List Value} (n : Nat), Vals xs us → Vals (xs.drop n) (us.drop n)
  | _, _, 0, r => r
  | _, _, _ + 1, .nil => .nil
  | _, _, n + 1, .cons _ t => Vals.drop n t
noncomputable def RelO : Option V → Option Value → Prop
  | some v, some u => RelV v u
  | none, none => True
  | _, _ => False
noncomputable def KV {κ : Type} : List (κ × V) → List (κ × Value) → Prop := Paired fun (p : κ × V) (q : κ × Value) => p.1 = q.1 ∧ RelV p.2 q.2

/-- a key of a dict (00_mix): an int or a text -/
noncomputable def kV : Key → V
  | .inl i => .int i
  | .inr x => .str x

/-- what stands at a tracked address -/
inductive HO where
  /-- a list -/
  | lst (xs : List V)
  /-- a tuple (never changes) -/
  | tup (xs : List V)
  /-- a dict whose keys are ints and texts; one whose keys are tuples of ints and texts (the empty one is both) -/
  | dK (kvs : List (Key × V)) | dT (kvs : List (List Key × V))
  /-- a set of ints: its members, its size -/
  | set (S : Int → Bool) (n : Nat)
  /-- an instance of the class at C, its dict at dx, its attributes -/
  | ins (C dx : Addr) (fs : List (Str × V))
  /-- the dict of the instance at x -/
  | own (x : Addr)
  /-- the dict of an exception -/
  | xd (fs : List (Str × V))
  /-- a bound method, f of x -/
  | met (f x : Addr)
  /-- a range object lo, lo + 1, .. below hi -/
  | rng (lo hi : Int)
  /-- a thing that is known to the object (the script; a dict while a loop walks it): read, never written while it is so -/
  | frz (o : Obj) (u : HO)
  /-- a code object's table -/
  | tbl (ps : Array Value)
  /-- any other thing, by what is true of its one object (a def of one's own: SetO a S n := HO.ext fun h => ..) -/
  | ext (φ : Heap → Prop)

noncomputable abbrev Hp := Addr → Option HO
noncomputable def upd (H : Hp) (a : Addr) (o : HO) : Hp := fun b => if b = a then some o else H b
theorem upd_same {H : Hp} {a : Addr} {o : HO} : upd H a o a = some o := by unfold upd; rw [if_pos rfl]
theorem upd_ne {H : Hp} {a b : Addr} {o : HO} (h : b ≠ a) : upd H a o b = H b := by unfold upd; rw [if_neg h]
theorem upd_upd {H : Hp} {a : Addr} {o u : HO} : upd (upd H a o) a u = upd H a u := by
  funext b; unfold upd; split <;> rfl
theorem ne_of_none {H : Hp} {a b : Addr} {o : HO} (h : H a = some o) (h' : H b = none) : a ≠ b := by
  intro e; subst e; rw [h] at h'; cases h'

section
variable (P : Program) (w : World)
noncomputable def ObjOk (H : Hp) (h : Heap) (a : Addr) : HO → Prop
  | .lst xs => xs.length ≤ sizeLine ∧ ∃ (its : List Value) (n : Nat), Vals xs its ∧ h.get? a = some { cls := .type "list", data := .seq its.toArray n }
  | .tup xs => xs.length ≤ sizeLine ∧ ∃ its : List Value, Vals xs its ∧ IsTup h a its.toArray
  | .dK kvs => kvs.length ≤ sizeLine ∧ (a == sysModules) = false ∧ ∃ vs, KV kvs vs ∧ h.DictOf (mixKind P w) a vs
  | .dT kvs => kvs.length ≤ sizeLine ∧ (a == sysModules) = false ∧ ∃ xs : List (List Key × Addr × Value),
      Paired (fun (p : List Key × V) (q : List Key × Addr × Value) => p.1 = q.1 ∧ H q.2.1 = some (.tup (p.1.map kV)) ∧ RelV p.2 q.2.2) kvs xs ∧
      ∃ o es ep, h.get? a = some o ∧ o.ExactDict ∧ o.data = .dict es ep ∧ es.toList = xs.map (entryOfKey (tupleKind (mixKind P w))) ∧ (xs.map (·.1)).Nodup
  | .set S n => h.SetOf (intKind P w) a S n
  | .ins C dx fs => H dx = some (.own a) ∧ fs.length ≤ 1000 ∧ dx ≠ a ∧ h.get? a = some (PySem.W.instObj C dx) ∧
      ∃ mA, h.Ns1 dx mA ∧ (∀ f, RelO (fs.lookup f) (mA f)) ∧ PySem.Within mA (fs.map (·.1))
  | .own _ => ∃ o, h.get? a = some o
  | .xd fs => ∃ mA, h.Ns1 a mA ∧ ∀ f, RelO (fs.lookup f) (mA f)
  | .rng lo hi => ∃ t u v, h.get? a = some { cls := .type "range", data := .fields #[.int lo t, .int hi u, .int 1 v] }
  | .frz o u => h.get? a = some o ∧ ObjOk H h a u
  | .tbl ps => h.get? a = some { cls := .none, data := .fields ps }
  | .met f x => h.get? a = some (PySem.W.methodObj (.ref f) (.ref x))
  | .ext φ => φ h ∧ (∃ o, h.get? a = some o) ∧ ∀ h1 h2 : Heap, φ h1 → (∀ o, h1.get? a = some o → h2.get? a = some o) → φ h2
/-- the abstract heap is held -/
noncomputable def HOk (H : Hp) (h : Heap) : Prop := ∀ a o, H a = some o → ObjOk P w H h a o
end

section
variable {P : Program} {w : World} {H H' : Hp} {h h' : Heap} {a : Addr} {o : HO}
theorem ObjOk.lt (x : ObjOk P w H h a o) : a < h.objs.size := by
  cases o with
  | lst xs => obtain ⟨_, _, _, _, e⟩ := x; exact Heap.lt_size e
  | tup xs => obtain ⟨_, _, _, p⟩ := x; exact p.lt
  | dK kvs => obtain ⟨_, _, _, _, o, _, _, e, _⟩ := x; exact Heap.lt_size e
  | dT kvs => obtain ⟨_, _, _, _, o, _, _, e, _⟩ := x; exact Heap.lt_size e
  | set S n => obtain ⟨o, _, _, _, e, _⟩ := x; exact Heap.lt_size e
  | ins C dx fs => obtain ⟨_, _, _, e, _⟩ := x; exact Heap.lt_size e
  | own y => obtain ⟨_, e⟩ := x; exact Heap.lt_size e
  | xd fs => obtain ⟨_, ⟨_, _, _, e, _⟩, _⟩ := x; exact Heap.lt_size e
  | rng lo hi => obtain ⟨_, _, _, e⟩ := x; exact Heap.lt_size e
  | frz ob u => obtain ⟨e, _⟩ := x; exact Heap.lt_size e
  | tbl ps => exact Heap.lt_size (show h.get? a = some _ from x)
  | met f y => exact Heap.lt_size (show h.get? a = some _ from x)
  | ext φ => obtain ⟨_, ⟨_, e⟩, _⟩ := x; exact Heap.lt_size e
theorem Paired.mapP {α β : Type} {F G : α → β → Prop} : ∀ {l₁ : List α} {l₂ : List β}, Paired F l₁ l₂ → (∀ a b, F a b → G a b) → Paired G l₁ l₂
  | _, _, .nil, _ => .nil
  | _, _, .cons r t, f => .cons (f _ _ r) (Paired.mapP t f)
/-- what an object's description leans on: its own object, its own dict, the tuples -/
theorem ObjOk.stay (x : ObjOk P w H h a o) (k : ∀ b u, (b = a ∨ H b = some (.own a)) → h.get? b = some u → h'.get? b = some u)
    (ho : ∀ b, H b = some (.own a) → H' b = some (.own a)) (ht : ∀ b xs, H b = some (.tup xs) → H' b = some (.tup xs)) : ObjOk P w H' h' a o := by
  induction o with
  | lst xs => obtain ⟨z, its, n, r, e⟩ := x; exact ⟨z, its, n, r, k _ _ (.inl rfl) e⟩
  | tup xs => obtain ⟨z, its, r, ob, e, c⟩ := x; exact ⟨z, its, r, ob, k _ _ (.inl rfl) e, c⟩
  | dK kvs => obtain ⟨z, y, vs, r, ob, es, ep, e, c⟩ := x; exact ⟨z, y, vs, r, ob, es, ep, k _ _ (.inl rfl) e, c⟩
  | dT kvs =>
    obtain ⟨z, y, xs, r, ob, es, ep, e, c⟩ := x
    exact ⟨z, y, xs, Paired.mapP r fun p q z => ⟨z.1, ht _ _ z.2.1, z.2.2⟩, ob, es, ep, k _ _ (.inl rfl) e, c⟩
  | set S n => obtain ⟨ob, es, ep, t, e, c⟩ := x; exact ⟨ob, es, ep, t, k _ _ (.inl rfl) e, c⟩
  | ins C dx fs =>
    obtain ⟨d, z, ne, e, mA, ⟨od, es, ep, e2, c⟩, r⟩ := x
    exact ⟨ho _ d, z, ne, k _ _ (.inl rfl) e, mA, ⟨od, es, ep, k _ _ (.inr d) e2, c⟩, r⟩
  | own y => obtain ⟨ob, e⟩ := x; exact ⟨ob, k _ _ (.inl rfl) e⟩
  | xd fs => obtain ⟨mA, ⟨od, es, ep, e, c⟩, r⟩ := x; exact ⟨mA, ⟨od, es, ep, k _ _ (.inl rfl) e, c⟩, r⟩
  | rng lo hi => obtain ⟨t, u, v, e⟩ := x; exact ⟨t, u, v, k _ _ (.inl rfl) e⟩
  | frz ob u ih => obtain ⟨e, q⟩ := x; exact ⟨k _ _ (.inl rfl) e, ih q⟩
  | tbl ps =>
    have e : h.get? a = some { cls := .none, data := .fields ps } := x
    show h'.get? a = some { cls := .none, data := .fields ps }
    exact k a _ (.inl rfl) e
  | met f y =>
    have e : h.get? a = some (PySem.W.methodObj (.ref f) (.ref y)) := x
    show h'.get? a = some (PySem.W.methodObj (.ref f) (.ref y))
    exact k a _ (.inl rfl) e
  | ext φ => obtain ⟨p, ⟨o, e⟩, st⟩ := x; exact ⟨st _ _ p fun o q => k _ _ (.inl rfl) q, ⟨o, k _ _ (.inl rfl) e⟩, st⟩
theorem HOk.lt (x : HOk P w H h) (e : H a = some o) : a < h.objs.size := (x a o e).lt
theorem HOk.fresh (x : HOk P w H h) (e : h.objs.size ≤ a) : H a = none := by
  cases q : H a with
  | none => rfl
  | some u => exact absurd (Nat.lt_of_lt_of_le (x.lt q) e) (Nat.lt_irrefl _)
/-- every object of the heap is kept -/
theorem HOk.kept (x : HOk P w H h) (k : ∀ b u, h.get? b = some u → h'.get? b = some u) : HOk P w H h' := fun a o e =>
  (x a o e).stay (fun b u _ q => k b u q) (fun _ q => q) fun _ _ q => q
/-- a new object is laid and tracked -/
theorem HOk.laid (x : HOk P w H h) (k : ∀ b u, h.get? b = some u → h'.get? b = some u) (hp : h.objs.size ≤ a) (new : ObjOk P w (upd H a o) h' a o) : HOk P w (upd H a o) h' := fun b u e => by
  have hn := x.fresh hp
  by_cases hb : b = a
  · subst hb; rw [upd_same] at e; cases e; exact new
  · rw [upd_ne hb] at e
    exact (x b u e).stay (fun c v _ q => k c v q) (fun c q => by rw [upd_ne (ne_of_none q hn)]; exact q) fun c xs q => by rw [upd_ne (ne_of_none q hn)]; exact q
end

/-- what may be read as u: it is u, or a known u -/
noncomputable def Rd (H : Hp) (a : Addr) (u : HO) : Prop := H a = some u ∨ ∃ o, H a = some (.frz o u)
theorem Rd.ok {P : Program} {w : World} {H : Hp} {h : Heap} {a : Addr} {u : HO} (r : Rd H a u) (x : HOk P w H h) : ObjOk P w H h a u := by
  rcases r with r | ⟨o, r⟩
  · exact x a u r
  · obtain ⟨_, q⟩ := x a _ r
    exact q
/-- what may be written -/
noncomputable def Mut : Option HO → Prop
  | some (.lst _) => True
  | some (.dK _) => True
  | some (.dT _) => True
  | some (.set _ _) => True
  | some (.ins _ _ _) => True
  | some (.ext _) => True
  | _ => False
section
variable {P : Program} {w : World} {H : Hp} {h h' : Heap} {x e : Addr} {o' : HO}
/-- the object at e is changed: x itself, or the dict of the instance x -/
theorem HOk.write (ok : HOk P w H h) (mu : Mut (H x)) (he : e = x ∨ H e = some (.own x)) (k : ∀ b u, b ≠ e → h.get? b = some u → h'.get? b = some u) (heo : ∃ u, h'.get? e = some u)
    (new : ObjOk P w (upd H x o') h' x o') : HOk P w (upd H x o') h' := fun b u q => by
  have nown : ∀ c y, H c = some (.own y) → c ≠ x := fun c y r z => by subst z; rw [r] at mu; exact mu
  have ntup : ∀ c xs, H c = some (.tup xs) → c ≠ x := fun c xs r z => by subst z; rw [r] at mu; exact mu
  by_cases hb : b = x
  · subst hb; rw [upd_same] at q; cases q; exact new
  · rw [upd_ne hb] at q
    by_cases hbe : b = e
    · have q' : H b = some (.own x) := by
        rcases he with z | z
        · exact absurd (hbe.trans z) hb
        · rw [hbe]; exact z
      rw [q] at q'; cases q'
      obtain ⟨v, hv⟩ := heo
      exact ⟨v, by rw [hbe]; exact hv⟩
    · refine (ok b u q).stay (fun c v hc r => k c v ?_ r) (fun c r => by rw [upd_ne (nown c b r)]; exact r) fun c xs r => by rw [upd_ne (ntup c xs r)]; exact r
      rcases hc with rfl | hc
      · exact hbe
      · rintro rfl
        rcases he with z | z
        · exact nown c b hc z
        · rw [hc] at z; cases z; exact hb rfl
end

/-! ### kept unless tracked; of the frames at fs (the callers') the slots may change (an exception that passes writes there); of the records at ex (iterators) nothing is said -/
structure Un (fs ex : List Addr) (H H' : Hp) (h h' : Heap) : Prop where
  keep : ∀ b o, h.get? b = some o → H b = none → b ∉ fs → b ∉ ex → h'.get? b = some o
  slot : ∀ b o, h.get? b = some o → H b = none → b ∈ fs → b ∉ ex → ∃ sl, h'.get? b = some { o with slots := sl }
  free : ∀ b o, h.get? b = some o → H b = none → b ∉ ex → H' b = none
  there : ∀ b o, h.get? b = some o → b ∉ ex → ∃ o', h'.get? b = some o'
  tups : ∀ b xs, H b = some (.tup xs) → H' b = some (.tup xs)
  frzs : ∀ b o u, H b = some (.frz o u) → H' b = some (.frz o u)
  tbls : ∀ b ps, H b = some (.tbl ps) → ∃ more, H' b = some (.tbl (ps ++ more))
section
variable {fs fs' ex ex' : List Addr} {H H1 H2 : Hp} {h h1 h2 h' : Heap} {a x e : Addr} {o : HO}
theorem Un.any (u : Un fs ex H H1 h h1) {b : Addr} {ob : Obj} (q : h.get? b = some ob) (n : H b = none) (hx : b ∉ ex) : ∃ sl, h1.get? b = some { ob with slots := sl } := by
  by_cases hb : b ∈ fs
  · exact u.slot b ob q n hb hx
  · exact ⟨ob.slots, u.keep b ob q n hb hx⟩
theorem Un.kept (k : ∀ b u, h.get? b = some u → h'.get? b = some u) : Un fs ex H H h h' :=
  ⟨fun b ob q _ _ _ => k b ob q, fun b ob q _ _ _ => ⟨ob.slots, k b ob q⟩, fun _ _ _ n _ => n, fun b ob q _ => ⟨ob, k b ob q⟩, fun _ _ q => q, fun _ _ _ q => q, fun _ ps q => ⟨#[], by rw [q]; simp⟩⟩
theorem Un.refl : Un fs ex H H h h := Un.kept fun _ _ q => q
theorem Un.laid (k : ∀ b u, h.get? b = some u → h'.get? b = some u) (hp : h.objs.size ≤ a) (hn : H a = none) : Un fs ex H (upd H a o) h h' where
  keep := fun b u q _ _ _ => k b u q
  slot := fun b u q _ _ _ => ⟨u.slots, k b u q⟩
  free := fun b u q n _ => by rw [upd_ne (Nat.ne_of_lt (Nat.lt_of_lt_of_le (Heap.lt_size q) hp))]; exact n
  there := fun b u q _ => ⟨u, k b u q⟩
  tups := fun b xs q => by rw [upd_ne (ne_of_none q hn)]; exact q
  frzs := fun b u xs q => by rw [upd_ne (ne_of_none q hn)]; exact q
  tbls := fun b ps q => ⟨#[], by rw [upd_ne (ne_of_none q hn), q]; simp⟩
theorem Un.write (mu : Mut (H x)) (he : e = x ∨ H e = some (.own x)) (k : ∀ b u, b ≠ e → h.get? b = some u → h'.get? b = some u) (heo : ∃ u, h'.get? e = some u) : Un fs ex H (upd H x o) h h' := by
  have hx : ∀ b, H b = none → b ≠ x := fun b n z => by subst z; rw [n] at mu; exact mu
  have hb : ∀ b, H b = none → b ≠ e := fun b n z => by
    subst z
    rcases he with r | r
    · exact hx b n r
    · rw [n] at r; cases r
  have hm : ∀ b u, H b = some u → ¬ Mut (some u) → b ≠ x := fun b u q nm z => by subst z; rw [q] at mu; exact nm mu
  refine ⟨fun b u q n _ _ => k b u (hb b n) q, fun b u q n _ _ => ⟨u.slots, k b u (hb b n) q⟩, fun b u q n _ => by rw [upd_ne (hx b n)]; exact n, fun b u q _ => ?_,
    fun b xs q => by rw [upd_ne (hm b _ q fun z => z)]; exact q, fun b u xs q => by rw [upd_ne (hm b _ q fun z => z)]; exact q, fun b ps q => ⟨#[], by rw [upd_ne (hm b _ q fun z => z), q]; simp⟩⟩
  by_cases hbe : b = e
  · subst hbe; exact heo
  · exact ⟨u, k b u hbe q⟩
end

/-! ### the heap without what is tracked -/
noncomputable def trk (h : Heap) (H : Hp) : List Addr := (List.range h.objs.size).filter fun a => (H a).isSome
noncomputable def hidT (h : Heap) (H : Hp) : Heap := PySem.W.hideAll h (trk h H)
theorem hidT_size (h : Heap) (H : Hp) : (hidT h H).objs.size = h.objs.size := PySem.W.hideAll_size _ _
theorem hidT_get {h : Heap} {H : Hp} {b : Addr} {o : Obj} (e : h.get? b = some o) (n : H b = none) : (hidT h H).get? b = some o :=
  PySem.W.hideAll_get _ e fun hm => by
    have q : (H b).isSome = true := (List.mem_filter.mp hm).2
    rw [n] at q; simp at q
theorem of_hidT {h : Heap} {H : Hp} {b : Addr} {o : Obj} (e : (hidT h H).get? b = some o) : h.get? b = some o ∧ H b = none := by
  have e' : h.get? b = some o := PySem.W.of_hideAll (trk h H) e
  refine ⟨e', ?_⟩
  cases q : H b with
  | none => rfl
  | some x =>
    have hm : b ∈ trk h H := List.mem_filter.mpr ⟨List.mem_range.mpr (Heap.lt_size e'), by simp [q]⟩
    have z : (hidT h H).get? b = none := PySem.W.hideAll_none (trk h H) hm
    rw [z] at e; cases e

/-! ### OpenK's ledger, filled with every new object but one -/
noncomputable def allNews (g h : Heap) (L : Addr) : List (Addr × Obj) := (List.range h.objs.size).filterMap fun a => if a = L ∨ (g.get? a).isSome = true then none else (h.get? a).map fun o => (a, o)
noncomputable def rest (g h : Heap) (L d : Addr) : List (Addr × Obj) := (allNews g h L).filter fun p => decide (p.1 ≠ d)
end L2

namespace L2
open PySem PySem.Spec PyProof.Rows

/-- the module's facts, over the base: the heap at the law's entry without what is tracked there -/
structure Mod (K : PySem.W.Frag) (mg : Str → Option Value) (base : Heap) : Prop where
  kin : K.In base
  glob : base.Ns mainGlobals mg
  blt : ∃ mb, base.Ns builtinsNs mb ∧ ∀ x : Str, x ≠ "__name__" → mb x = bootBuiltins x
  nolimit : base.NoLimit

/-- the context: a def's body (or a comprehension's block) running. base: fixed through the whole law; s₀, H₀: the entry; outer: the frames whose slots others may change (a def's callers); stack: all frames that run;
   ex: iterators that were made ahead of the entry and are walked here (a comprehension's); fn: the names whose cells were made at the entry (a def: all; a comprehension's block: its own); calm: not within an except suite; pn: pins that every state bears; xe: what is wanted of an exception that leaves the code -/
structure Cx where
  prog : Program
  w : World
  K : PySem.W.Frag
  mg : Str → Option Value
  base : Heap
  A : Around
  N : List Str
  s₀ : Shared
  H₀ : Hp
  env : Env
  outer : List Env
  stack : List Env
  ex : List Addr
  fn : Str → Bool
  calm : Bool
  pn : List (Addr × Obj)
  xe : Value → Shared → Prop
/-- the callers' frames -/
noncomputable def frs (l : List Env) : List Addr := l.filterMap (·.frame)
noncomputable abbrev Cx.fs (X : Cx) : List Addr := frs X.outer

noncomputable def Vis (sc : Scope) (x : Str) : Prop := sc.names.lookup x = some .local ∨ sc.names.lookup x = some .cell ∨ sc.names.lookup x = some .free
noncomputable def Loc (sc : Scope) (x : Str) : Prop := sc.names.lookup x = some .local ∨ sc.names.lookup x = some .cell
noncomputable def Look (env : Env) (h : Heap) (m : Str → Option Value) (x : Str) (u : Value) : Prop :=
  (env.kindOf x = some .local ∧ m x = some u) ∨ ((env.kindOf x = some .cell ∨ env.kindOf x = some .free) ∧ ∃ c, env.cells.lookup x = some c ∧ h.IsCell c (some u))

structure Cx.Ok (X : Cx) : Prop where
  mod : Mod X.K X.mg X.base
  kind : X.env.scope.kind = .function
  glob : X.env.globals = mainGlobals
  blt : X.env.builtins = builtinsNs
  above : X.s₀.heap.objs.size ≤ X.env.locals
  inj : ∀ x y c, X.env.cells.lookup x = some c → X.env.cells.lookup y = some c → x = y
  has : ∀ x, (X.env.kindOf x = some .cell ∨ X.env.kindOf x = some .free) → ∃ c, X.env.cells.lookup x = some c
  cab : ∀ x c, X.fn x = true → X.env.cells.lookup x = some c → X.s₀.heap.objs.size ≤ c
  hd : X.calm = true → X.A.handled = none
  frames : X.A.frames = some X.stack
  stk : X.stack = X.outer ∨ (X.stack = X.env :: X.outer ∧ X.env.frame = some X.env.locals)
  exf : ∀ b ∈ X.ex, b ≠ X.env.locals ∧ ∀ x c, X.env.cells.lookup x = some c → c ≠ b
  bs : ∀ b o, X.base.get? b = some o → X.s₀.heap.get? b = some o ∧ X.H₀ b = none
  bsz : X.base.objs.size ≤ X.s₀.heap.objs.size
  noex : ∀ b o, X.base.get? b = some o → b ∉ X.ex
  exfs : ∀ b ∈ X.ex, b ∉ X.fs
  funs : X.s₀.heap.FunFrames X.base X.outer
  frf : ∀ b ∈ X.fs, X.H₀ b = none

structure Inv (X : Cx) (pins : List (Addr × Obj)) (σ : List (Option V)) (H : Hp) (s : Shared) : Prop where
  ok : X.Ok
  os : s.os = X.s₀.os
  bare : AllBare s.gens
  base : Un X.fs X.ex X.H₀ H X.s₀.heap s.heap
  loc : ∃ m, s.heap.Ns X.env.locals m ∧ ∀ (i : Nat) (x : Str) (v : V), X.N[i]? = some x → σ[i]? = some (some v) → Vis X.env.scope x → ∃ u, RelV v u ∧ Look X.env s.heap m x u
  cell : ∀ x c, X.env.cells.lookup x = some c → ∃ v, s.heap.IsCell c v
  free : H X.env.locals = none
  freeC : ∀ x c, X.env.cells.lookup x = some c → H c = none
  pin : ∀ p ∈ X.pn ++ pins, s.heap.get? p.1 = some p.2 ∧ H p.1 = none ∧ p.1 ≠ X.env.locals ∧ p.1 ∉ X.fs ∧ ∀ v, p.2.data ≠ .cell v
  hok : HOk X.prog X.w H s.heap
  len : σ.length = X.N.length

section
variable {X : Cx} {pins : List (Addr × Obj)} {σ : List (Option V)} {H H' : Hp} {s : Shared} {h' : Heap}

theorem Cx.Ok.nofr (ok : X.Ok) {b : Addr} {o : Obj} (e : X.base.get? b = some o) : b ∉ X.fs := fun hb => by
  have := (ok.funs.mem hb).1
  rw [e] at this; cases this
theorem Inv.bs (I : Inv X pins σ H s) : ∀ b o, X.base.get? b = some o → s.heap.get? b = some o ∧ H b = none := fun b o e =>
  ⟨I.base.keep b o (I.ok.bs b o e).1 (I.ok.bs b o e).2 (I.ok.nofr e) (I.ok.noex b o e), I.base.free b o (I.ok.bs b o e).1 (I.ok.bs b o e).2 (I.ok.noex b o e)⟩
theorem Inv.bk (I : Inv X pins σ H s) : ∀ b o, X.base.get? b = some o → s.heap.get? b = some o := fun b o e => (I.bs b o e).1
theorem Inv.mod (I : Inv X pins σ H s) : Mod X.K X.mg X.base := I.ok.mod
theorem Inv.kIn (I : Inv X pins σ H s) : X.K.In s.heap := I.ok.mod.kin.keeps I.bk
/-- the frame over the base: for OpenK's rules (K.In X.base is I.mod.kin) -/
theorem Inv.fr (I : Inv X pins σ H s) : ∃ m, Fr X.base X.env.locals s.heap m :=
  let ⟨m, hn, _⟩ := I.loc
  ⟨m, hn, I.bk, Nat.le_trans I.ok.bsz I.ok.above⟩
theorem Inv.lt (I : Inv X pins σ H s) : X.env.locals < s.heap.objs.size := let ⟨_, hn, _⟩ := I.loc; hn.lt
theorem Inv.sz (I : Inv X pins σ H s) : X.s₀.heap.objs.size ≤ s.heap.objs.size := Nat.le_trans I.ok.above (Nat.le_of_lt I.lt)
theorem Inv.nofs (I : Inv X pins σ H s) {a : Addr} (h : s.heap.objs.size ≤ a) : a ∉ X.fs := fun hb => by
  obtain ⟨_, o, ho, _⟩ := I.ok.funs.mem hb
  exact absurd (Nat.lt_of_lt_of_le (Heap.lt_size ho) (Nat.le_trans I.sz h)) (Nat.lt_irrefl _)
theorem Inv.cne (I : Inv X pins σ H s) : ∀ x c, X.env.cells.lookup x = some c → c ≠ X.env.locals := fun x c e z => by
  obtain ⟨v, o, ho, hd⟩ := I.cell x c e
  obtain ⟨m, ⟨o', es, ep, ho', hd', _⟩, _⟩ := I.loc
  rw [z, ho'] at ho; cases ho; rw [hd'] at hd; cases hd
theorem Inv.funs (I : Inv X pins σ H s) : s.heap.FunFrames X.base X.outer := by
  have all : ∀ (l : List Env), (∀ b ∈ frs l, b ∈ X.fs) → X.s₀.heap.FunFrames X.base l → s.heap.FunFrames X.base l := by
    intro l
    induction l with
    | nil => intro _ _; trivial
    | cons env r ih =>
      intro hs hl
      obtain ⟨hk, ⟨L, o, hf, hn, ho, hd⟩, hr⟩ := hl
      have hL : L ∈ X.fs := hs L (by unfold frs; rw [List.filterMap_cons, hf]; exact List.mem_cons_self)
      obtain ⟨sl, e⟩ := I.base.slot L o ho (I.ok.frf L hL) hL fun z => I.ok.exfs L z hL
      exact ⟨hk, ⟨L, _, hf, hn, e, hd⟩, ih (fun b hb => hs b (by unfold frs; rw [List.filterMap_cons, hf]; exact List.mem_cons_of_mem _ hb)) hr⟩
  exact all X.outer (fun _ hb => hb) I.ok.funs

/-- the frames that run, for a call -/
theorem Inv.stack (I : Inv X pins σ H s) : s.heap.FunFrames X.base X.stack := by
  rcases I.ok.stk with e | ⟨e, hf⟩
  · rw [e]; exact I.funs
  · rw [e]
    obtain ⟨m, hn, _⟩ := I.loc
    refine .cons (by rw [I.ok.kind]; decide) hf hn ?_ I.funs
    exact Heap.get?_none_of_le (Nat.le_trans I.ok.bsz I.ok.above)
theorem Inv.stkSub (I : Inv X pins σ H s) : ∀ b ∈ frs X.stack, b ∈ X.env.locals :: X.fs := fun b hb => by
  rcases I.ok.stk with e | ⟨e, hf⟩
  · rw [e] at hb; exact List.mem_cons_of_mem _ hb
  · rw [e] at hb
    unfold frs at hb
    rw [List.filterMap_cons, hf] at hb
    exact hb
theorem Inv.stkFree (I : Inv X pins σ H s) : ∀ b ∈ frs X.stack, H b = none := fun b hb => by
  rcases List.mem_cons.mp (I.stkSub b hb) with e | hb
  · rw [e]; exact I.free
  · obtain ⟨_, o, ho, _⟩ := I.ok.funs.mem hb
    exact I.base.free b o ho (I.ok.frf b hb) fun z => I.ok.exfs b z hb

/-- THE STEP: the untracked objects but the frame and the records at ch are kept (the callers' frames up to slots), the frame's map is kept, the new abstract heap is held -/
theorem Inv.step {g' : Array GenState} {t' : Nat} {d' : Drawn} {ch : List Addr} (I : Inv X pins σ H s)
    (hch : ∀ b ∈ ch, (b ∈ X.ex ∨ X.s₀.heap.objs.size ≤ b) ∧ b ≠ X.env.locals ∧ (∀ x c, X.env.cells.lookup x = some c → c ≠ b) ∧ ∀ p ∈ X.pn ++ pins, p.1 ≠ b)
    (keep : ∀ b o, b ≠ X.env.locals → b ∉ X.fs → b ∉ ch → s.heap.get? b = some o → H b = none → h'.get? b = some o)
    (slot : ∀ b o, b ≠ X.env.locals → b ∈ X.fs → b ∉ ch → s.heap.get? b = some o → H b = none → ∃ sl, h'.get? b = some { o with slots := sl }) (free : ∀ b o, b ∉ ch → s.heap.get? b = some o → H b = none → H' b = none)
    (there : ∀ b o, b ∉ ch → s.heap.get? b = some o → ∃ o', h'.get? b = some o')
    (tups : ∀ b xs, H b = some (.tup xs) → H' b = some (.tup xs)) (frzs : ∀ b o u, H b = some (.frz o u) → H' b = some (.frz o u)) (tbls : ∀ b ps, H b = some (.tbl ps) → ∃ more, H' b = some (.tbl (ps ++ more)))
    (ns : ∀ m, s.heap.Ns X.env.locals m → h'.Ns X.env.locals m) (hok : HOk X.prog X.w H' h') (hg : AllBare g') :
    Inv X pins σ H' { s with heap := h', gens := g', drawn := d', toks := t' } := by
  have neL : ∀ b o, X.s₀.heap.get? b = some o → b ≠ X.env.locals := fun b o e => Nat.ne_of_lt (Nat.lt_of_lt_of_le (Heap.lt_size e) I.ok.above)
  have neC : ∀ b o, X.s₀.heap.get? b = some o → b ∉ X.ex → b ∉ ch := fun b o e hx hb => by
    rcases (hch b hb).1 with z | z
    · exact hx z
    · exact absurd (Nat.lt_of_lt_of_le (Heap.lt_size e) z) (Nat.lt_irrefl _)
  have cellK : ∀ x c, X.env.cells.lookup x = some c → ∀ v, s.heap.IsCell c v → h'.IsCell c v := fun x c e v ⟨o, ho, hd⟩ => by
    have nch : c ∉ ch := fun z => (hch c z).2.2.1 x c e rfl
    by_cases hc : c ∈ X.fs
    · obtain ⟨sl, q⟩ := slot c o (I.cne x c e) hc nch ho (I.freeC x c e)
      exact ⟨_, q, hd⟩
    · exact ⟨o, keep c o (I.cne x c e) hc nch ho (I.freeC x c e), hd⟩
  refine ⟨I.ok, I.os, hg, ⟨fun b o e n hb hx => ?_, fun b o e n hb hx => ?_, fun b o e n hx => ?_, fun b o e hx => ?_, fun b xs e => tups b xs (I.base.tups b xs e), fun b o xs e => frzs b o xs (I.base.frzs b o xs e), fun b ps e => ?_⟩, ?_, fun x c e => ?_, ?_, fun x c e => ?_, fun p hp => ?_, hok, I.len⟩
  · exact keep b o (neL b o e) hb (neC b o e hx) (I.base.keep b o e n hb hx) (I.base.free b o e n hx)
  · obtain ⟨sl, e1⟩ := I.base.slot b o e n hb hx
    obtain ⟨sl', e2⟩ := slot b _ (neL b o e) hb (neC b o e hx) e1 (I.base.free b o e n hx)
    exact ⟨sl', e2⟩
  · obtain ⟨o', e1⟩ := I.base.there b o e hx
    exact free b o' (neC b o e hx) e1 (I.base.free b o e n hx)
  · obtain ⟨o', e1⟩ := I.base.there b o e hx
    exact there b o' (neC b o e hx) e1
  · obtain ⟨m1, e1⟩ := I.base.tbls b ps e
    obtain ⟨m2, e2⟩ := tbls b _ e1
    exact ⟨m1 ++ m2, by rw [e2, Array.append_assoc]⟩
  · obtain ⟨m, hn, hl⟩ := I.loc
    refine ⟨m, ns m hn, fun i x v e1 e2 e3 => ?_⟩
    obtain ⟨u, r, l⟩ := hl i x v e1 e2 e3
    refine ⟨u, r, ?_⟩
    rcases l with l | ⟨k, c, e, z⟩
    · exact .inl l
    · exact .inr ⟨k, c, e, cellK x c e _ z⟩
  · obtain ⟨v, z⟩ := I.cell x c e
    exact ⟨v, cellK x c e v z⟩
  · obtain ⟨m, ⟨o, _, _, ho, _⟩, _⟩ := I.loc
    exact free _ o (fun z => (hch _ z).2.1 rfl) ho I.free
  · obtain ⟨v, o, ho, hd⟩ := I.cell x c e
    exact free c o (fun z => (hch c z).2.2.1 x c e rfl) ho (I.freeC x c e)
  · obtain ⟨e, n, ne, nf, d⟩ := I.pin p hp
    have nch : p.1 ∉ ch := fun z => (hch p.1 z).2.2.2 p hp rfl
    exact ⟨keep p.1 p.2 ne nf nch e n, free p.1 p.2 nch e n, ne, nf, d⟩
/-- .. where the frame's own object is kept too -/
theorem Inv.un {t' : Nat} (I : Inv X pins σ H s) (u : Un X.fs [] H H' s.heap h') (hok : HOk X.prog X.w H' h') : Inv X pins σ H' { s with heap := h', toks := t' } := by
  obtain ⟨m, ⟨o, es, ep, ho, r⟩, _⟩ := id I.loc
  obtain ⟨sl, hL⟩ := u.any ho I.free (by simp)
  exact I.step (g' := s.gens) (d' := s.drawn) (ch := []) (fun _ z => nomatch z) (fun b o _ hb _ e n => u.keep b o e n hb (by simp)) (fun b o _ hb _ e n => u.slot b o e n hb (by simp)) (fun b o _ e n => u.free b o e n (by simp)) (fun b o _ e => u.there b o e (by simp)) u.tups u.frzs u.tbls (fun m' hm => by
    obtain ⟨o', es', ep', ho', r'⟩ := hm
    rw [ho] at ho'; cases ho'
    exact ⟨_, es', ep', hL, r'⟩) hok I.bare
/-- behind a call (or a comprehension's block): the slots of this frame may have changed too, the records at ch may have turned -/
theorem Inv.call {g' : Array GenState} {t' : Nat} {d' : Drawn} {ch : List Addr} (I : Inv X pins σ H s) (u : Un (frs X.stack) ch H H' s.heap h') (hok : HOk X.prog X.w H' h') (hg : AllBare g')
    (hch : ∀ b ∈ ch, (b ∈ X.ex ∨ X.s₀.heap.objs.size ≤ b) ∧ b ≠ X.env.locals ∧ (∀ x c, X.env.cells.lookup x = some c → c ≠ b) ∧ ∀ p ∈ X.pn ++ pins, p.1 ≠ b) :
    Inv X pins σ H' { s with heap := h', gens := g', drawn := d', toks := t' } := by
  obtain ⟨m, ⟨o, es, ep, ho, r⟩, _⟩ := id I.loc
  obtain ⟨sl, hL⟩ := u.any ho I.free fun z => (hch _ z).2.1 rfl
  exact I.step (ch := ch) hch (fun b o hL hb hc e n => u.keep b o e n (fun z => (List.mem_cons.mp (I.stkSub b z)).elim hL hb) hc) (fun b o _ _ hc e n => u.any e n hc) (fun b o hc e n => u.free b o e n hc) (fun b o hc e => u.there b o e hc) u.tups u.frzs u.tbls (fun m' hm => by
    obtain ⟨o', es', ep', ho', r'⟩ := hm
    rw [ho] at ho'; cases ho'
    exact ⟨_, es', ep', hL, r'⟩) hok hg
/-- an untracked record of ours (an iterator) has turned -/
theorem Inv.turned {t' : Nat} {it : Addr} (I : Inv X pins σ H s) (k : ∀ b o, b ≠ it → s.heap.get? b = some o → h'.get? b = some o) (hn : H it = none) (hL : it ≠ X.env.locals)
    (h1 : it ∈ X.ex ∨ X.s₀.heap.objs.size ≤ it) (h2 : ∀ x c, X.env.cells.lookup x = some c → c ≠ it) (h3 : ∀ p ∈ X.pn ++ pins, p.1 ≠ it) : Inv X pins σ H { s with heap := h', toks := t' } := by
  have nit : ∀ b u, H b = some u → b ≠ it := fun b u e z => by rw [z, hn] at e; cases e
  refine I.step (g' := s.gens) (d' := s.drawn) (ch := [it]) (fun b hb => ?_) (fun b o _ _ hc e _ => k b o (fun z => hc (by simp [z])) e) (fun b o _ _ hc e _ => ⟨o.slots, k b o (fun z => hc (by simp [z])) e⟩) (fun _ _ _ _ n => n)
    (fun b o hc e => ⟨o, k b o (fun z => hc (by simp [z])) e⟩) (fun _ _ e => e) (fun _ _ _ e => e) (fun b ps e => ⟨#[], by rw [e]; simp⟩) (fun m hm => ?_) (fun b u e => ?_) I.bare
  · have e : b = it := by simpa using hb
    subst e
    exact ⟨h1, hL, h2, h3⟩
  · obtain ⟨o, es, ep, ho, r⟩ := hm
    exact ⟨o, es, ep, k _ o (Ne.symm hL) ho, r⟩
  · refine (I.hok b u e).stay (fun c v hc q => k c v ?_ q) (fun _ q => q) fun _ _ q => q
    rcases hc with z | z
    · rw [z]; exact nit b u e
    · exact nit c _ z
theorem Inv.tok (I : Inv X pins σ H s) (t : Nat) : Inv X pins σ H { s with toks := t } := I.un (h' := s.heap) (t' := t) Un.refl I.hok
/-- all objects kept -/
theorem Inv.kept {t' : Nat} (I : Inv X pins σ H s) (k : ∀ b u, s.heap.get? b = some u → h'.get? b = some u) : Inv X pins σ H { s with heap := h', toks := t' } := I.un (Un.kept k) (I.hok.kept k)
/-- a new object laid and tracked -/
theorem Inv.laid {a : Addr} {o : HO} {t' : Nat} (I : Inv X pins σ H s) (k : ∀ b u, s.heap.get? b = some u → h'.get? b = some u) (hp : s.heap.objs.size ≤ a) (new : ObjOk X.prog X.w (upd H a o) h' a o) :
    Inv X pins σ (upd H a o) { s with heap := h', toks := t' } := I.un (Un.laid k hp (I.hok.fresh hp)) (I.hok.laid k hp new)
/-- an object written -/
theorem Inv.write {x e : Addr} {o : HO} {t' : Nat} (I : Inv X pins σ H s) (mu : Mut (H x)) (he : e = x ∨ H e = some (.own x)) (k : ∀ b u, b ≠ e → s.heap.get? b = some u → h'.get? b = some u) (heo : ∃ u, h'.get? e = some u)
    (new : ObjOk X.prog X.w (upd H x o) h' x o) : Inv X pins σ (upd H x o) { s with heap := h', toks := t' } := I.un (Un.write mu he k heo) (I.hok.write mu he k heo new)
/-- forgetting slots, pins -/
theorem Inv.weak {σ' : List (Option V)} (I : Inv X pins σ H s) (hl : σ'.length = σ.length) (w : ∀ (i : Nat) v, σ'[i]? = some (some v) → σ[i]? = some (some v)) : Inv X pins σ' H s :=
  ⟨I.ok, I.os, I.bare, I.base, let ⟨m, hn, hl'⟩ := I.loc; ⟨m, hn, fun i x v e1 e2 e3 => hl' i x v e1 (w i v e2) e3⟩, I.cell, I.free, I.freeC, I.pin, I.hok, hl.trans I.len⟩
theorem Inv.pins_of {pins' : List (Addr × Obj)} (I : Inv X pins σ H s) (h : ∀ p ∈ pins', s.heap.get? p.1 = some p.2 ∧ H p.1 = none ∧ p.1 ≠ X.env.locals ∧ p.1 ∉ X.fs ∧ ∀ v, p.2.data ≠ .cell v) : Inv X pins' σ H s :=
  ⟨I.ok, I.os, I.bare, I.base, I.loc, I.cell, I.free, I.freeC, fun p hp => (List.mem_append.mp hp).elim (fun z => I.pin p (List.mem_append_left _ z)) (h p), I.hok, I.len⟩

theorem nodup_ix {N : List Str} (hN : N.Nodup) {i j : Nat} {x : Str} (a : N[i]? = some x) (b : N[j]? = some x) : i = j := by
  obtain ⟨h1, e1⟩ := List.getElem?_eq_some_iff.mp a
  obtain ⟨h2, e2⟩ := List.getElem?_eq_some_iff.mp b
  exact (List.getElem_inj hN).mp (e1.trans e2.symm)

/-- a name is stored; what changed -/
theorem store_ok2 {M : Model} {A : Around} {E : Value → Shared → Prop} {i : Nat} {x : Str} {v : V} {u : Value} {Q : Unit → Shared → Prop} (I : Inv X pins σ H s) (hN : X.N.Nodup) (hi : X.N[i]? = some x) (hx : Loc X.env.scope x) (r : RelV v u)
    (h : ∀ s', Inv X pins (σ.set i (some v)) H s' → (∃ a, Heap.SameBut a s.heap s'.heap ∧ (a = X.env.locals ∨ X.env.cells.lookup x = some a)) → Q () s') (hf : X.fn x = true ∨ X.env.scope.names.lookup x = some .local := by first | exact .inl rfl | exact .inr rfl | assumption) : wpAny M A (storeName X.env x u) Q E s := by
  obtain ⟨m, hn, hl⟩ := id I.loc
  have hcls : (X.env.scope.kind == .class || (X.env.scope.kind == .module && X.env.locals != X.env.globals)) = false := by rw [I.ok.kind]; rfl
  have hiσ : i < σ.length := by rw [I.len]; exact (List.getElem?_eq_some_iff.mp hi).1
  have cne := I.cne
  have tracked : ∀ {a : Addr} {h' : Heap}, (∃ o, s.heap.get? a = some o ∧ H a = none) → Heap.SameBut a s.heap h' → HOk X.prog X.w H h' := fun {a h'} ha hs b ob e => by
    obtain ⟨_, _, hfree⟩ := ha
    refine (I.hok b ob e).stay (fun c w' hc q => (hs.2 c ?_).trans q) (fun _ q => q) fun _ _ q => q
    rintro rfl
    rcases hc with rfl | hc
    · rw [hfree] at e; cases e
    · rw [hfree] at hc; cases hc
  rcases hx with hk | hk
  · refine wpAny_storeName_local hk hn (fun h' hn' hs => ?_) hcls
    obtain ⟨oL, _, _, hoL, _⟩ := id hn
    refine h _ ⟨I.ok, I.os, I.bare, ⟨fun b o e n hb hx => ?_, fun b o e n hb hx => ?_, I.base.free, fun b o e hx => ?_, I.base.tups, I.base.frzs, I.base.tbls⟩, ⟨_, hn', fun j y v' e1 e2 e3 => ?_⟩, fun y c e => ?_, I.free, I.freeC, fun p hp => ?_, tracked ⟨oL, hoL, I.free⟩ hs, by simpa using I.len⟩ ⟨_, hs, .inl rfl⟩
    · exact (hs.2 b (Nat.ne_of_lt (Nat.lt_of_lt_of_le (Heap.lt_size e) I.ok.above))).trans (I.base.keep b o e n hb hx)
    · obtain ⟨sl, e1⟩ := I.base.slot b o e n hb hx
      exact ⟨sl, (hs.2 b (Nat.ne_of_lt (Nat.lt_of_lt_of_le (Heap.lt_size e) I.ok.above))).trans e1⟩
    · obtain ⟨o', e1⟩ := I.base.there b o e hx
      exact ⟨o', (hs.2 b (Nat.ne_of_lt (Nat.lt_of_lt_of_le (Heap.lt_size e) I.ok.above))).trans e1⟩
    · by_cases hj : j = i
      · subst hj
        rw [hi] at e1; cases e1
        rw [List.getElem?_set_self hiσ] at e2
        cases e2
        exact ⟨u, r, .inl ⟨hk, by simp⟩⟩
      · rw [List.getElem?_set_ne (Ne.symm hj)] at e2
        obtain ⟨u', r', q⟩ := hl j y v' e1 e2 e3
        refine ⟨u', r', ?_⟩
        rcases q with ⟨k, e⟩ | ⟨k, c, e, z⟩
        · refine .inl ⟨k, ?_⟩
          have : y ≠ x := fun e => hj (nodup_ix hN e1 (e ▸ hi))
          simp [this, e]
        · exact .inr ⟨k, c, e, z.sameBut hs (cne y c e)⟩
    · obtain ⟨w', z⟩ := I.cell y c e
      exact ⟨w', z.sameBut hs (cne y c e)⟩
    · obtain ⟨e, n, ne, nf, d⟩ := I.pin p hp
      exact ⟨(hs.2 p.1 ne).trans e, n, ne, nf, d⟩
  · have hfn : X.fn x = true := by
      rcases hf with z | z
      · exact z
      · rw [z] at hk; cases hk
    obtain ⟨c, hc⟩ := I.ok.has x (.inl hk)
    obtain ⟨w', z⟩ := I.cell x c hc
    refine wpAny_storeName_cell I.ok.kind hk hc z (fun h' hc' hs => ?_)
    obtain ⟨oc, hoc, hocd⟩ := id z
    refine h { s with heap := h' } ⟨I.ok, I.os, I.bare, ⟨fun b o e n hb hx => ?_, fun b o e n hb hx => ?_, I.base.free, fun b o e hx => ?_, I.base.tups, I.base.frzs, I.base.tbls⟩, ⟨m, hn.sameBut hs (Ne.symm (cne x c hc)), fun j y v' e1 e2 e3 => ?_⟩, fun y c' e => ?_, I.free, I.freeC, fun p hp => ?_, tracked ⟨oc, hoc, I.freeC x c hc⟩ hs, by simpa using I.len⟩ ⟨c, hs, .inr hc⟩
    · exact (hs.2 b (Nat.ne_of_lt (Nat.lt_of_lt_of_le (Heap.lt_size e) (I.ok.cab x c hfn hc)))).trans (I.base.keep b o e n hb hx)
    · obtain ⟨sl, e1⟩ := I.base.slot b o e n hb hx
      exact ⟨sl, (hs.2 b (Nat.ne_of_lt (Nat.lt_of_lt_of_le (Heap.lt_size e) (I.ok.cab x c hfn hc)))).trans e1⟩
    · obtain ⟨o', e1⟩ := I.base.there b o e hx
      exact ⟨o', (hs.2 b (Nat.ne_of_lt (Nat.lt_of_lt_of_le (Heap.lt_size e) (I.ok.cab x c hfn hc)))).trans e1⟩
    · by_cases hj : j = i
      · subst hj
        rw [hi] at e1; cases e1
        rw [List.getElem?_set_self hiσ] at e2
        cases e2
        exact ⟨u, r, .inr ⟨.inl hk, c, hc, hc'⟩⟩
      · rw [List.getElem?_set_ne (Ne.symm hj)] at e2
        obtain ⟨u', r', q⟩ := hl j y v' e1 e2 e3
        refine ⟨u', r', ?_⟩
        rcases q with q | ⟨k, c', e, z'⟩
        · exact .inl q
        · refine .inr ⟨k, c', e, z'.sameBut hs ?_⟩
          rintro rfl
          exact hj (nodup_ix hN e1 (I.ok.inj _ _ _ e hc ▸ hi))
    · by_cases hcc : c' = c
      · subst hcc; exact ⟨_, hc'⟩
      · obtain ⟨w2, z2⟩ := I.cell y c' e
        exact ⟨w2, z2.sameBut hs hcc⟩
    · obtain ⟨e, n, ne, nf, d⟩ := I.pin p hp
      refine ⟨(hs.2 p.1 ?_).trans e, n, ne, nf, d⟩
      intro q
      rw [q, hoc] at e
      have q' : oc = p.2 := Option.some.inj e
      exact d w' (by rw [← q']; exact hocd)
theorem store_ok {M : Model} {A : Around} {E : Value → Shared → Prop} {i : Nat} {x : Str} {v : V} {u : Value} {Q : Unit → Shared → Prop} (I : Inv X pins σ H s) (hN : X.N.Nodup) (hi : X.N[i]? = some x) (hx : Loc X.env.scope x) (r : RelV v u)
    (h : ∀ s', Inv X pins (σ.set i (some v)) H s' → Q () s') (hf : X.fn x = true ∨ X.env.scope.names.lookup x = some .local := by first | exact .inl rfl | exact .inr rfl | assumption) : wpAny M A (storeName X.env x u) Q E s :=
  store_ok2 I hN hi hx r (fun s' I' _ => h s' I') hf
/-- behind a call or a block, the state as it is -/
theorem Inv.call' {s' : Shared} {ch : List Addr} (I : Inv X pins σ H s) (ho : s'.os = s.os) (u : Un (frs X.stack) ch H H' s.heap s'.heap) (hok : HOk X.prog X.w H' s'.heap) (hg : AllBare s'.gens)
    (hch : ∀ b ∈ ch, (b ∈ X.ex ∨ X.s₀.heap.objs.size ≤ b) ∧ b ≠ X.env.locals ∧ (∀ x c, X.env.cells.lookup x = some c → c ≠ b) ∧ ∀ p ∈ X.pn ++ pins, p.1 ≠ b) : Inv X pins σ H' s' := by
  obtain ⟨h', g', d', t', o'⟩ := s'
  have e : o' = s.os := ho
  subst e
  exact I.call (g' := g') (t' := t') (d' := d') u hok hg hch
end

/-! ### the judgements -/
/-- an exception: its class, its own dict's address (where it has one), the abstract heap behind it -/
noncomputable abbrev XK := Value → Option Addr → Hp → Prop
noncomputable abbrev St := List (Option V)
noncomputable abbrev VK := V → Hp → Prop
/-- an expression's reading; a test's; an argument list's -/
noncomputable abbrev TE := St → Hp → VK → Prop
noncomputable abbrev TT := St → Hp → (Bool → Hp → Prop) → Prop
noncomputable abbrev TA := St → Hp → (List V → Hp → Prop) → Prop
/-- what is wanted behind a statement -/
structure Ends where
  nx : St → Hp → Prop
  rt : VK
  bk : St → Hp → Prop := fun _ _ => False
  ct : St → Hp → Prop := fun _ _ => False
noncomputable abbrev TS := Ends → St → Hp → Prop

noncomputable def EP (X : Cx) (pins : List (Addr × Obj)) (σ : St) (Q : VK) (u : Value) (s' : Shared) : Prop := ∃ v H', Inv X pins σ H' s' ∧ RelV v u ∧ Q v H'
noncomputable def TP (X : Cx) (pins : List (Addr × Obj)) (σ : St) (Q : Bool → Hp → Prop) (b : Bool) (s' : Shared) : Prop := ∃ H', Inv X pins σ H' s' ∧ Q b H'
noncomputable def AP (X : Cx) (pins : List (Addr × Obj)) (σ : St) (Q : List V → Hp → Prop) (us : List Value) (s' : Shared) : Prop := ∃ vs H', Inv X pins σ H' s' ∧ Vals vs us ∧ Q vs H'
noncomputable def SP (X : Cx) (pins : List (Addr × Obj)) (D : Ends) (f : Flow) (s' : Shared) : Prop :=
  match f with
  | .next => ∃ σ' H', Inv X pins σ' H' s' ∧ D.nx σ' H'
  | .brk => ∃ σ' H', Inv X pins σ' H' s' ∧ D.bk σ' H'
  | .cont => ∃ σ' H', Inv X pins σ' H' s' ∧ D.ct σ' H'
  | .ret u => ∃ v σ' H', Inv X pins σ' H' s' ∧ RelV v u ∧ D.rt v H'

noncomputable def PE (X : Cx) (e : Expr) (t : TE) : Prop :=
  ∀ (pins : List (Addr × Obj)) (s : Shared) (σ : St) (H : Hp) (Q : VK), Inv X pins σ H s → t σ H Q → wpAny (model X.prog X.w) X.A (eval e X.env) (EP X pins σ Q) X.xe s
noncomputable def PT (X : Cx) (e : Expr) (t : TT) : Prop :=
  ∀ (pins : List (Addr × Obj)) (s : Shared) (σ : St) (H : Hp) (Q : Bool → Hp → Prop), Inv X pins σ H s → t σ H Q → wpAny (model X.prog X.w) X.A (isTrue e X.env (eval e X.env)) (TP X pins σ Q) X.xe s
/-- a test whatever its 'whole' is (and, or) -/
noncomputable def PW (X : Cx) (e : Expr) (t : TT) : Prop :=
  ∀ (whole : Sem Value) (pins : List (Addr × Obj)) (s : Shared) (σ : St) (H : Hp) (Q : Bool → Hp → Prop), Inv X pins σ H s → t σ H Q → wpAny (model X.prog X.w) X.A (isTrue e X.env whole) (TP X pins σ Q) X.xe s
theorem PW.pt {X : Cx} {e : Expr} {t : TT} (h : PW X e t) : PT X e t := h _
/-- an argument list (no star), from the left -/
noncomputable def PA (X : Cx) (es : List Expr) (t : TA) : Prop :=
  ∀ (pos : Pos) (pins : List (Addr × Obj)) (s : Shared) (σ : St) (H : Hp) (Q : List V → Hp → Prop), Inv X pins σ H s → t σ H Q → wpAny (model X.prog X.w) X.A (spliced (backTo pos (starEach es X.env))) (AP X pins σ Q) X.xe s
noncomputable def PS (X : Cx) (st : Stmt) (t : TS) : Prop :=
  ∀ (pins : List (Addr × Obj)) (s : Shared) (σ : St) (H : Hp) (D : Ends), Inv X pins σ H s → t D σ H → wpAny (model X.prog X.w) X.A (exec st X.env) (SP X pins D) X.xe s
noncomputable def PSs (X : Cx) (st : List Stmt) (t : TS) : Prop :=
  ∀ (pins : List (Addr × Obj)) (s : Shared) (σ : St) (H : Hp) (D : Ends), Inv X pins σ H s → t D σ H → wpAny (model X.prog X.w) X.A (execs st X.env) (SP X pins D) X.xe s
/-- weaken the end -/
theorem thn {α : Type} {t : Sem α} {Q Q' : α → Shared → Prop} {M : Model} {A : Around} {E : Value → Shared → Prop} {s : Shared} (h : wpAny M A t Q E s) (hQ : ∀ a s, Q a s → Q' a s) : wpAny M A t Q' E s := wpAny_mono h hQ fun _ _ x => x
end L2

namespace L2
open PySem PySem.Spec PyProof.Rows
section
variable {X : Cx}

/-- two expressions in a row -/
theorem bin {a b : Expr} {ta tb : TE} (ha : PE X a ta) (hb : PE X b tb) {pins : List (Addr × Obj)} {s : Shared} {σ : St} {H : Hp} {R : V → V → Hp → Prop} (I : Inv X pins σ H s) (h : ta σ H fun x H1 => tb σ H1 fun y H2 => R x y H2)
    {α : Type} {Q : α → Shared → Prop} {f : Value → Value → Sem α}
    (hf : ∀ v u s2 x y H2, Inv X pins σ H2 s2 → RelV x v → RelV y u → R x y H2 → wpAny (model X.prog X.w) X.A (f v u) Q X.xe s2) :
    wpAny (model X.prog X.w) X.A (eval a X.env) (fun v s₁ => wpAny (model X.prog X.w) X.A (eval b X.env) (fun u s₂ => wpAny (model X.prog X.w) X.A (f v u) Q X.xe s₂) X.xe s₁) X.xe s := by
  refine thn (ha pins s σ H _ I h) fun v s1 ⟨x, H1, I1, r1, q1⟩ => ?_
  refine thn (hb pins s1 σ H1 _ I1 q1) fun u s2 ⟨y, H2, I2, r2, q2⟩ => ?_
  exact hf v u s2 x y H2 I2 r1 r2 q2

/-! ### names and constants -/
noncomputable def tVar (i : Nat) : TE := fun σ H Q => ∃ v, σ[i]? = some (some v) ∧ Q v H
noncomputable def tC (v : V) : TE := fun _ H Q => Q v H
theorem pe_var {i : Nat} {x : Str} {pos : Pos} (hN : X.N[i]? = some x) (hv : Vis X.env.scope x) (hd : (x == ("__debug__" : Str)) = false := by decide) (hcd : (x == ("__classdict__" : Str)) = false := by decide) : PE X (.Name x pos) (tVar i) := by
  intro pins s σ H Q I h
  obtain ⟨v, e, h⟩ := h
  obtain ⟨m, hn, hl⟩ := I.loc
  obtain ⟨u, r, l⟩ := hl i x v hN e hv
  have fin : EP X pins σ Q u s := ⟨v, H, I, r, h⟩
  rcases l with ⟨hk, hm⟩ | ⟨hk, c, hc, hcell⟩
  · exact wpAny_Name (wpAny_loadName_local I.ok.kind hk hn hm fin) hd
  · rcases hk with hk | hk
    · exact wpAny_Name (wpAny_loadName_cell I.ok.kind hk hc hcell fin) hd
    · exact wpAny_Name (wpAny_loadName_free I.ok.kind hk hc hcell fin hcd) hd
theorem pe_int {i j pos} : PE X (.Constant (.int i) j pos) (tC (.int i)) := fun _ _ _ H _ I h => wpAny_Constant_int ⟨.int i, H, I.tok _, ⟨_, rfl⟩, h⟩
theorem pe_bl {b j pos} : PE X (.Constant (.bool b) j pos) (tC (.bl b)) := fun _ _ _ H _ I h => Constant_bool ⟨.bl b, H, I, rfl, h⟩
theorem pe_str {x j pos} : PE X (.Constant (.str x) j pos) (tC (.str x)) := fun _ _ _ H _ I h => Calls.Constant_str ⟨.str x, H, I.tok _, ⟨_, rfl⟩, h⟩

/-- a global name of the def -/
noncomputable def Gl (X : Cx) (x : Str) : Prop := X.env.kindOf x = some .globalImplicit
theorem ld_glob {E : Value → Shared → Prop} {pins : List (Addr × Obj)} {s : Shared} {σ : St} {H : Hp} {x : Str} {u : Value} {pos : Pos} {Q : Value → Shared → Prop} (I : Inv X pins σ H s) (hg : Gl X x) (hm : X.mg x = some u) (h : Q u s)
    (hd : (x == ("__debug__" : Str)) = false := by decide) : wpAny (model X.prog X.w) X.A (eval (.Name x pos) X.env) Q E s :=
  Calls.Name_function_global I.ok.kind hg (Calls.loadGlobal_global (by rw [I.ok.glob]; exact I.mod.glob.keeps I.bk) hm h) hd
theorem ld_blt {E : Value → Shared → Prop} {pins : List (Addr × Obj)} {s : Shared} {σ : St} {H : Hp} {x : Str} {u : Value} {pos : Pos} {Q : Value → Shared → Prop} (I : Inv X pins σ H s) (hg : Gl X x) (hm : X.mg x = none) (hv : bootBuiltins x = some u) (h : Q u s)
    (hn : x ≠ "__name__" := by decide) (hd : (x == ("__debug__" : Str)) = false := by decide) : wpAny (model X.prog X.w) X.A (eval (.Name x pos) X.env) Q E s := by
  obtain ⟨mb, h1, h2⟩ := I.mod.blt
  exact Calls.Name_function_global I.ok.kind hg (Calls.loadGlobal_builtin (by rw [I.ok.glob]; exact I.mod.glob.keeps I.bk) hm (by rw [I.ok.blt]; exact h1.keeps I.bk) ((h2 x hn).trans hv) h) hd
theorem pe_bltn {x : Str} {v : V} {u : Value} {pos : Pos} (hg : Gl X x) (hm : X.mg x = none) (hv : bootBuiltins x = some u) (r : RelV v u) (hn : x ≠ "__name__" := by decide) (hd : (x == ("__debug__" : Str)) = false := by decide) : PE X (.Name x pos) (tC v) :=
  fun _ _ _ H _ I h => ld_blt I hg hm hv ⟨v, H, I, r, h⟩ hn hd

/-! ### arithmetic -/
variable {a b : Expr} {ta tb : TE} {pos : Pos}
/-! ### comparisons -/
noncomputable def PC (X : Cx) (op : CmpOp) (a b : Expr) (t : TE) : Prop :=
  ∀ (pins : List (Addr × Obj)) (s : Shared) (σ : St) (H : Hp) (Q : VK), Inv X pins σ H s → t σ H Q →
    wpAny (model X.prog X.w) X.A (eval a X.env) (fun v s₁ => wpAny (model X.prog X.w) X.A (eval b X.env) (fun u s₂ => wpAny (model X.prog X.w) X.A (compareOp op v u) (EP X pins σ Q) X.xe s₂) X.xe s₁) X.xe s
theorem nobehind (b : Expr) {op : CmpOp} (h : op ≠ .In) (h2 : op ≠ .NotIn) : behindInMarks op b = false := by
  have e1 : (op == CmpOp.In) = false := by cases op <;> first | rfl | exact absurd rfl h
  have e2 : (op == CmpOp.NotIn) = false := by cases op <;> first | rfl | exact absurd rfl h2
  cases b <;> simp [behindInMarks, e1, e2]
/-- a comparison as a value, as a test -/
noncomputable def tB (t : TE) : TT := fun σ H Q => t σ H fun x H1 => ∃ c, x = .bl c ∧ Q c H1
theorem pt_cmp {op : CmpOp} {t : TE} (h : PC X op a b t) (h1 : behindInMarks op b = false := by first | exact nobehind _ (by decide) (by decide) | rfl) : PT X (.Compare a [op] [b] pos) (tB t) := by
  intro pins s σ H Q I hw
  refine wpAny_isTrue_Compare1 (thn (h pins s σ H _ I hw) fun v s1 h1 => thn h1 fun u s2 h2 => thn h2 fun c s3 ⟨x, H1, I1, r1, q1⟩ => ?_) h1
  obtain ⟨d, rfl, q⟩ := q1
  cases r1
  exact wpAny_truthy_bool ⟨H1, I1, q⟩
/-- an expression whose value is a bool, as a test -/
theorem pt_val {e : Expr} {t : TE} (h : PE X e t) (he : ∀ whole, isTrue e X.env whole = (do let v ← whole; standAt e.pos; holding [v] (truthy v)) := by intro _; rfl) : PT X e (tB t) := by
  intro pins s σ H Q I hw
  refine isTrue_plain (thn (h pins s σ H _ I hw) fun v s1 ⟨x, H1, I1, r1, q1⟩ => ?_) (he _)
  obtain ⟨d, rfl, q⟩ := q1
  cases r1
  exact wpAny_truthy_bool ⟨H1, I1, q⟩

/-! ### and, or, not -/
variable {tA tB' : TT} {rest : List Expr}
noncomputable def tOr (t u : TT) : TT := fun σ H Q => t σ H fun c H1 => if c = true then Q true H1 else u σ H1 Q
noncomputable def tNot (t : TT) : TT := fun σ H Q => t σ H fun c H1 => Q (!c) H1
theorem pw_or1 (ha : PT X a tA) : PW X (.BoolOp .Or [a] pos) tA := by
  intro wh pins s σ H Q I h
  refine isTrue_or (thn (ha pins s σ H Q I h) fun c s1 e => ?_)
  cases c with
  | false => exact isTrue_or_nil e
  | true => exact e
theorem pw_or (ha : PT X a tA) (hb : PW X (.BoolOp .Or (b :: rest) pos) tB') : PW X (.BoolOp .Or (a :: b :: rest) pos) (tOr tA tB') := by
  intro wh pins s σ H Q I h
  refine isTrue_or (thn (ha pins s σ H _ I h) fun c s1 ⟨H1, I1, q1⟩ => ?_)
  cases c with
  | true => exact ⟨H1, I1, q1⟩
  | false => exact hb wh pins s1 σ H1 Q I1 q1
theorem pt_not (ha : PT X a tA) : PT X (.UnaryOp .Not a pos) (tNot tA) := by
  intro pins s σ H Q I h
  exact isTrue_not (ha pins s σ H (fun c H1 => Q (!c) H1) I h)
/-- .. as values (bools) -/
noncomputable def tAndV (ta tb : TE) : TE := fun σ H Q => ta σ H fun x H1 => ∃ c, x = .bl c ∧ if c = true then tb σ H1 Q else Q (.bl false) H1
noncomputable def tNotV (ta : TE) : TE := fun σ H Q => ta σ H fun x H1 => ∃ c, x = .bl c ∧ Q (.bl (!c)) H1
theorem pe_one {op} {t : TE} (h : PE X a t) : PE X (.BoolOp op [a] pos) t := fun pins s σ H Q I hw => BoolOp_one (h pins s σ H Q I hw)
theorem pe_and (ha : PE X a ta) (hb : PE X (.BoolOp .And (b :: rest) pos) tb) : PE X (.BoolOp .And (a :: b :: rest) pos) (tAndV ta tb) := by
  intro pins s σ H Q I h
  refine BoolOp_and (thn (ha pins s σ H _ I h) fun v s1 ⟨x, H1, I1, r1, q1⟩ => ?_)
  obtain ⟨c, rfl, q1⟩ := q1
  cases r1
  refine wpAny_truthy_bool ?_
  cases c with
  | true => exact hb pins s1 σ H1 Q I1 q1
  | false => exact ⟨.bl false, H1, I1, rfl, q1⟩
theorem pe_not (ha : PE X a ta) : PE X (.UnaryOp .Not a pos) (tNotV ta) := by
  intro pins s σ H Q I h
  refine UnaryOp_ (thn (ha pins s σ H _ I h) fun v s1 ⟨x, H1, I1, r1, q1⟩ => ?_)
  obtain ⟨c, rfl, q1⟩ := q1
  cases r1
  exact not_of (wpAny_truthy_bool ⟨.bl (!c), H1, I1, rfl, q1⟩)
end
end L2

namespace L2
open PySem PySem.Spec PyProof.Rows

/-! ### a list, a tuple that is read: tracked, frozen, or an object of the module -/
noncomputable def SqL (K : PySem.W.Frag) (H : Hp) (a : Addr) (xs : List V) : Prop :=
  Rd H a (.lst xs) ∨
    ∃ (o : Obj) (its : Array Value) (n : Nat), K.lookup a = some o ∧ o.cls = .type "list" ∧ o.dict = none ∧ o.data = .seq its n ∧ its.size ≤ sizeLine ∧ Vals xs its.toList
noncomputable def SqT (K : PySem.W.Frag) (H : Hp) (a : Addr) (xs : List V) : Prop :=
  Rd H a (.tup xs) ∨
    ∃ (o : Obj) (its : Array Value) (n : Nat), K.lookup a = some o ∧ o.cls = .type "tuple" ∧ o.data = .seq its n ∧ its.size ≤ sizeLine ∧ Vals xs its.toList
noncomputable def absV : Value → Option V
  | .none => some .non
  | .bool b => some (.bl b)
  | .int i _ => some (.int i)
  | .str x _ => some (.str x)
  | .bytes b _ => some (.byt b)
  | .float b _ => some (.flt b)
  | .ref a => some (.ref a)
  | .type n => some (.ty n)
  | _ => none
theorem RelV.abs {x : V} {u : Value} (r : RelV x u) : absV u = some x := by
  cases x with
  | non => cases r; rfl
  | bl _ => cases r; rfl
  | int _ => obtain ⟨t, rfl⟩ := r; rfl
  | str _ => obtain ⟨t, rfl⟩ := r; rfl
  | byt _ => obtain ⟨t, rfl⟩ := r; rfl
  | flt _ => obtain ⟨t, rfl⟩ := r; rfl
  | ref _ => cases r; rfl
  | ty _ => cases r; rfl
theorem RelV.inj {x y : V} {u : Value} (r : RelV x u) (q : RelV y u) : x = y := Option.some.inj (r.abs.symm.trans q.abs)
theorem Vals.inj : ∀ {xs ys : List V} {us : List Value}, Vals xs us → Vals ys us → xs = ys
  | _, _, _, .nil, .nil => rfl
  | _, _, _, .cons r t, .cons r' t' => by rw [r.inj r', Vals.inj t t']
section
variable {X : Cx} {pins : List (Addr × Obj)} {σ : St} {H : Hp} {s : Shared} {a : Addr} {xs ys : List V}
theorem SqL.of {K : PySem.W.Frag} (h : H a = some (.lst xs)) : SqL K H a xs := .inl (.inl h)
theorem SqT.of {K : PySem.W.Frag} (h : H a = some (.tup xs)) : SqT K H a xs := .inl (.inl h)
theorem Inv.list (I : Inv X pins σ H s) (h : SqL X.K H a xs) : ∃ its : List Value, Vals xs its ∧ PlainL s.heap a its.toArray ∧ xs.length ≤ sizeLine := by
  rcases h with h | ⟨o, its, n, hk, hc, hd, hs, hz, r⟩
  · obtain ⟨z, its, n, r, e⟩ := h.ok I.hok
    exact ⟨its, r, ⟨_, n, e, rfl, rfl, rfl⟩, z⟩
  · refine ⟨its.toList, r, ⟨o, n, I.kIn a o hk, hc, hd, by simpa using hs⟩, ?_⟩
    have e := r.length
    simp only [Array.length_toList] at e
    omega
theorem Inv.tuple (I : Inv X pins σ H s) (h : SqT X.K H a xs) : ∃ its : List Value, Vals xs its ∧ IsTup s.heap a its.toArray ∧ xs.length ≤ sizeLine := by
  rcases h with h | ⟨o, its, n, hk, hc, hs, hz, r⟩
  · obtain ⟨z, its, r, p⟩ := h.ok I.hok
    exact ⟨its, r, p, z⟩
  · refine ⟨its.toList, r, ⟨o, I.kIn a o hk, hc, n, by simpa using hs⟩, ?_⟩
    have e := r.length
    simp only [Array.length_toList] at e
    omega
theorem Inv.list_inj (I : Inv X pins σ H s) (h : SqL X.K H a xs) (h' : SqL X.K H a ys) : xs = ys := by
  obtain ⟨its, r, ⟨o, n, e, _, _, d⟩, _⟩ := I.list h
  obtain ⟨its', r', ⟨o', n', e', _, _, d'⟩, _⟩ := I.list h'
  rw [e] at e'; cases e'
  rw [d] at d'
  injection d' with d1 _
  have : its = its' := by simpa using congrArg Array.toList d1
  subst this
  exact r.inj r'
end

/-! ### another wish about exceptions -/
noncomputable abbrev Cx.wish (X : Cx) (E : Value → Shared → Prop) : Cx := { X with xe := E }
/-- no exception leaves -/
noncomputable abbrev Cx.nox (X : Cx) : Cx := X.wish fun _ _ => False
theorem Cx.Ok.wish {X : Cx} (ok : X.Ok) (E : Value → Shared → Prop) : (X.wish E).Ok :=
  ⟨ok.mod, ok.kind, ok.glob, ok.blt, ok.above, ok.inj, ok.has, ok.cab, ok.hd, ok.frames, ok.stk, ok.exf, ok.bs, ok.bsz, ok.noex, ok.exfs, ok.funs, ok.frf⟩
theorem Cx.Ok.unwish {X : Cx} {E : Value → Shared → Prop} (ok : (X.wish E).Ok) : X.Ok :=
  ⟨ok.mod, ok.kind, ok.glob, ok.blt, ok.above, ok.inj, ok.has, ok.cab, ok.hd, ok.frames, ok.stk, ok.exf, ok.bs, ok.bsz, ok.noex, ok.exfs, ok.funs, ok.frf⟩
section
variable {X : Cx} {pins : List (Addr × Obj)} {σ : St} {H : Hp} {s : Shared} {E : Value → Shared → Prop}
theorem Inv.wish (I : Inv X pins σ H s) (E : Value → Shared → Prop) : Inv (X.wish E) pins σ H s := ⟨I.ok.wish E, I.os, I.bare, I.base, I.loc, I.cell, I.free, I.freeC, I.pin, I.hok, I.len⟩
theorem Inv.unwish (I : Inv (X.wish E) pins σ H s) : Inv X pins σ H s := ⟨I.ok.unwish, I.os, I.bare, I.base, I.loc, I.cell, I.free, I.freeC, I.pin, I.hok, I.len⟩
theorem SP.unwish {D : Ends} {f : Flow} {s' : Shared} (h : SP (X.wish E) pins D f s') : SP X pins D f s' := by
  cases f with
  | next => obtain ⟨σ', H', I, q⟩ := h; exact ⟨σ', H', I.unwish, q⟩
  | brk => obtain ⟨σ', H', I, q⟩ := h; exact ⟨σ', H', I.unwish, q⟩
  | cont => obtain ⟨σ', H', I, q⟩ := h; exact ⟨σ', H', I.unwish, q⟩
  | ret u => obtain ⟨v, σ', H', I, r, q⟩ := h; exact ⟨v, σ', H', I.unwish, r, q⟩
theorem PSs.nox {st : List Stmt} {t : TS} (h : PSs X.nox st t) : PSs X st t := fun pins s σ H D I hw =>
  wpAny_mono (h pins s σ H D (I.wish _) hw) (fun _ _ q => q.unwish) fun _ _ z => False.elim z
end

/-! ### blocks and small statements -/
section
variable {X : Cx} {st : Stmt} {rest : List Stmt} {t u : TS} {e : Expr} {te : TE} {pos : Pos}
noncomputable def tNext : TS := fun D σ H => D.nx σ H
noncomputable def tSeq (t u : TS) : TS := fun D σ H => t { D with nx := u D } σ H
theorem pss_nil : PSs X [] tNext := fun _ _ σ H _ I h => wpAny_execs_nil ⟨σ, H, I, h⟩
theorem pss_cons (h1 : PS X st t) (h2 : PSs X rest u) : PSs X (st :: rest) (tSeq t u) := by
  intro pins s σ H D I h
  refine wpAny_execs_cons (thn (h1 pins s σ H { D with nx := u D } I h) fun f s1 q => ?_)
  cases f with
  | next =>
    obtain ⟨σ', H', I', q⟩ := q
    exact h2 pins s1 σ' H' D I' q
  | ret v => exact q
  | brk => exact q
  | cont => exact q
theorem pss_one (h1 : PS X st t) : PSs X [st] t := by
  intro pins s σ H D I h
  refine wpAny_execs_cons (thn (h1 pins s σ H D I h) fun f s1 q => ?_)
  cases f with
  | next => exact wpAny_execs_nil q
  | ret v => exact q
  | brk => exact q
  | cont => exact q
/-- in a def's body nothing is shown -/
theorem Inv.quiet {pins : List (Addr × Obj)} {σ : St} {H : Hp} {s : Shared} (I : Inv X pins σ H s) : interactive X.env = false := by simp [interactive, I.ok.kind]
/-- an expression whose value is dropped -/
noncomputable def tDrop (te : TE) : TS := fun D σ H => te σ H fun _ H1 => D.nx σ H1
theorem ps_expr (he : PE X e te) (hs : swapsWith e none pos.line X.env = pure false := by rfl) : PS X (.Expr e pos) (tDrop te) := by
  intro pins s σ H D I h
  exact wpAny_Expr_any (thn (he pins s σ H _ I h) fun v s1 ⟨x, H1, I1, r1, q1⟩ => ⟨σ, H1, I1, q1⟩) I.quiet hs
noncomputable def tRet (te : TE) : TS := fun D σ H => te σ H D.rt
theorem ps_ret (he : PE X e te) : PS X (.Return (some e) pos) (tRet te) := by
  intro pins s σ H D I h
  exact wpAny_Return_some (thn (he pins s σ H _ I h) fun v s1 ⟨x, H1, I1, r1, q1⟩ => ⟨x, σ, H1, I1, r1, q1⟩)
noncomputable def tIfS (c : TT) (t u : TS) : TS := fun D σ H => c σ H fun b H1 => if b = true then t D σ H1 else u D σ H1
theorem ps_if {c : Expr} {a b : List Stmt} {tc : TT} (hc : PT X c tc) (ha : PSs X a t) (hb : PSs X b u) : PS X (.If c a b pos) (tIfS tc t u) := by
  intro pins s σ H D I h
  refine wpAny_If (thn (hc pins s σ H _ I h) fun d s1 ⟨H1, I1, q1⟩ => ?_)
  cases d with
  | true => exact ha pins s1 σ H1 D I1 q1
  | false => exact hb pins s1 σ H1 D I1 q1
end

/-! ### targets -/
noncomputable abbrev TG := V → St → Hp → (St → Hp → Prop) → Prop
noncomputable def PG (X : Cx) (target : Expr) (t : TG) : Prop :=
  ∀ (pins : List (Addr × Obj)) (s : Shared) (σ : St) (H : Hp) (v : V) (u : Value) (Q : St → Hp → Prop), Inv X pins σ H s → RelV v u → t v σ H Q →
    wpAny (model X.prog X.w) X.A (assign target X.env u) (fun _ s' => ∃ σ' H', Inv X pins σ' H' s' ∧ Q σ' H') X.xe s
/-- o[i] = v, by values -/
noncomputable abbrev TSet := V → V → V → Hp → (Hp → Prop) → Prop
noncomputable def PSet (X : Cx) (t : TSet) : Prop :=
  ∀ (pins : List (Addr × Obj)) (s : Shared) (σ : St) (H : Hp) (o i v : V) (ov iv u : Value) (Q : Hp → Prop), Inv X pins σ H s → RelV o ov → RelV i iv → RelV v u → t o i v H Q →
    wpAny (model X.prog X.w) X.A (setItem ov iv u) (fun _ s' => ∃ H', Inv X pins σ H' s' ∧ Q H') X.xe s
section
variable {X : Cx} {pos : Pos}
noncomputable def gName (i : Nat) : TG := fun v σ H Q => Q (σ.set i (some v)) H
theorem pg_name {i : Nat} {x : Str} (hN : X.N.Nodup) (hi : X.N[i]? = some x) (hx : Loc X.env.scope x) (hf : X.fn x = true ∨ X.env.scope.names.lookup x = some .local := by first | exact .inl rfl | exact .inr rfl | assumption) : PG X (.Name x pos) (gName i) := by
  intro pins s σ H v u Q I r h
  exact wpAny_assign_Name (store_ok I hN hi hx r (fun s' I' => ⟨_, H, I', h⟩) hf)
/-- o[i] = .. -/
noncomputable def gSub (to ti : TE) (t : TSet) : TG := fun v σ H Q => to σ H fun o H1 => ti σ H1 fun i H2 => t o i v H2 fun H3 => Q σ H3
theorem pg_sub {o i : Expr} {to ti : TE} {t : TSet} (ho : PE X o to) (hi : PE X i ti) (hs : PSet X t)
    (ha : ∀ v, assign (.Subscript o i pos) X.env v = (do
      let ov ← holding [v] (eval o X.env)
      let iv ← holding [v, ov] (eval i X.env)
      standAt pos
      holding [v, ov, iv] (setItem ov iv v)
      release [v, ov, iv] []) := by intro _; rfl) : PG X (.Subscript o i pos) (gSub to ti t) := by
  intro pins s σ H v u Q I r h
  rw [ha]
  refine wpAny_bind (wpAny_holding (thn (ho pins s σ H _ I h) fun ov s1 ⟨x, H1, I1, r1, q1⟩ => ?_))
  refine wpAny_bind (wpAny_holding (thn (hi pins s1 σ H1 _ I1 q1) fun iv s2 ⟨y, H2, I2, r2, q2⟩ => ?_))
  refine wpAny_bind (wpAny_standAt (wpAny_bind (wpAny_holding (thn (hs pins s2 σ H2 x y v ov iv u _ I2 r1 r2 r q2) fun _ s3 ⟨H3, I3, q3⟩ => ?_))))
  exact wpAny_release ⟨σ, H3, I3, q3⟩
/-- target = value -/
noncomputable def tAsg (te : TE) (g : TG) : TS := fun D σ H => te σ H fun x H1 => g x σ H1 D.nx
theorem ps_asg {tg e : Expr} {te : TE} {g : TG} (he : PE X e te) (hg : PG X tg g) (hs : swapsWithSole [tg] e pos.line X.env = pure false := by rfl) (hw : swappedStores [tg] e X.env = pure none := by rfl)
    (h1 : (assignEach [tg] X.env).map (·.2) = [assign tg X.env] := by rfl) : PS X (.Assign [tg] e pos) (tAsg te g) := by
  intro pins s σ H D I h
  refine wpAny_Assign_stores (thn (he pins s σ H _ I h) fun v s1 ⟨x, H1, I1, r1, q1⟩ => ?_) hs hw
  rw [h1]
  exact thn (hg pins s1 σ H1 x v _ I1 r1 q1) fun _ s2 q => q
/-- name = value -/
theorem ps_set {i : Nat} {x : Str} {e : Expr} {te : TE} {pos' : Pos} (hN : X.N.Nodup) (hi : X.N[i]? = some x) (hx : Loc X.env.scope x) (he : PE X e te) (hs : swapsWith e (some (.Name x pos')) pos.line X.env = pure false := by rfl) (hf : X.fn x = true ∨ X.env.scope.names.lookup x = some .local := by first | exact .inl rfl | exact .inr rfl | assumption) :
    PS X (.Assign [.Name x pos'] e pos) (tAsg te (gName i)) := by
  intro pins s σ H D I h
  refine wpAny_Assign_Name (thn (he pins s σ H _ I h) fun v s1 ⟨y, H1, I1, r1, q1⟩ => ?_) hs
  exact store_ok I1 hN hi hx r1 (fun s2 I2 => ⟨_, H1, I2, q1⟩) hf
end

/-! ### while -/
section
variable {X : Cx} {pos : Pos}
end

/-! ### what a loop or a comprehension walks -/
/-- at turn i: it yields x (the heap may grow), or it stops -/
structure It where
  go : Nat → Hp → Prop
  yld : Nat → Hp → V → Hp → Prop
  stop : Nat → Hp → Prop
/-- the iterator's own objects may turn: they are not the frame's, not pinned, younger than the entry (or a comprehension's own) -/
noncomputable def FpOk (X : Cx) (pins : List (Addr × Obj)) (H : Hp) (b : Addr) : Prop :=
  H b = none ∧ b ≠ X.env.locals ∧ b ∉ X.fs ∧ (b ∈ X.ex ∨ X.s₀.heap.objs.size ≤ b) ∧ (∀ x c, X.env.cells.lookup x = some c → c ≠ b) ∧ ∀ p ∈ X.pn ++ pins, p.1 ≠ b
theorem Inv.fpOk {X : Cx} {pins : List (Addr × Obj)} {σ : St} {H H' : Hp} {s : Shared} {b : Addr} (I : Inv X pins σ H s) (hb : s.heap.objs.size ≤ b) (hn : H' b = none) : FpOk X pins H' b := by
  refine ⟨hn, Nat.ne_of_gt (Nat.lt_of_lt_of_le I.lt hb), I.nofs hb, .inr (Nat.le_trans I.sz hb), fun x c e z => ?_, fun p hp z => ?_⟩
  · obtain ⟨v, q⟩ := I.cell x c e
    exact absurd (Nat.lt_of_lt_of_le q.lt (by rw [z]; exact hb)) (Nat.lt_irrefl _)
  · exact absurd (Nat.lt_of_lt_of_le (Heap.lt_size (I.pin p hp).1) (by rw [z]; exact hb)) (Nat.lt_irrefl _)
structure Turn (P : Program) (w : World) (K : PySem.W.Frag) (tg : Expr) (J : It) (fp : List Addr) (it : Addr) (tn : Nat → Heap → Prop) : Prop where
  mem : it ∈ fp
  obj : ∀ i h, tn i h → ∀ b ∈ fp, ∃ o, h.get? b = some o ∧ ∀ v, o.data ≠ .cell v
  keep : ∀ i h h', tn i h → (∀ b ∈ fp, ∀ o, h.get? b = some o → h'.get? b = some o) → tn i h'
  item : ∀ (X : Cx), X.prog = P → X.w = w → X.K = K → X.calm = true → ∀ (i : Nat) (pins : List (Addr × Obj)) (s : Shared) (σ : St) (H : Hp) (E : Value → Shared → Prop), Inv X pins σ H s → (∀ b ∈ fp, FpOk X pins H b) → tn i s.heap → J.go i H →
    wpAny (model P w) X.A (pyNext (.ref it)) (fun r s1 => ∃ u, r = some u ∧
      wpAny (model P w) X.A (letOwnedTupleGo tg (.ref it) u) (fun _ s2 => ∃ x H', Inv X pins σ H' s2 ∧ RelV x u ∧ J.yld i H x H' ∧ tn (i + 1) s2.heap ∧ ∀ b ∈ fp, H' b = none) E s1) E s
  done : ∀ (X : Cx), X.prog = P → X.w = w → X.K = K → X.calm = true → ∀ (i : Nat) (pins : List (Addr × Obj)) (s : Shared) (σ : St) (H : Hp) (E : Value → Shared → Prop), Inv X pins σ H s → (∀ b ∈ fp, FpOk X pins H b) → tn i s.heap → J.stop i H →
    wpAny (model P w) X.A (pyNext (.ref it)) (fun r s1 => r = none ∧ Inv X pins σ H s1) E s
  self : ∀ (A : Around) (i : Nat) (s : Shared) (Q : Value → Shared → Prop) (E : Value → Shared → Prop), tn i s.heap → Q (.ref it) s → wpAny (model P w) A (pyIter (.ref it)) Q E s
noncomputable abbrev TI := St → Hp → (It → Hp → Prop) → Prop
/-- an iterator has come -/
noncomputable def PIE (X : Cx) (pins : List (Addr × Obj)) (σ : St) (tg : Expr) (R : It → Hp → Prop) (itv : Value) (s2 : Shared) : Prop :=
  ∃ (it : Addr) (fp : List Addr) (tn : Nat → Heap → Prop) (J : It) (H' : Hp), itv = .ref it ∧ Inv X pins σ H' s2 ∧ Turn X.prog X.w X.K tg J fp it tn ∧ tn 0 s2.heap ∧ (∀ b ∈ fp, FpOk X pins H' b) ∧ R J H'
noncomputable def PI (X : Cx) (tg iter : Expr) (wi : TI) : Prop :=
  ∀ (pins : List (Addr × Obj)) (s : Shared) (σ : St) (H : Hp) (R : It → Hp → Prop), Inv X pins σ H s → wi σ H R →
    wpAny (model X.prog X.w) X.A (eval iter X.env) (fun v s1 => wpAny (model X.prog X.w) X.A (pyIter v) (PIE X pins σ tg R) X.xe s1) X.xe s

/-- the step ahead of the store is nothing for an iterator that keeps no tuple -/
theorem go_of {M : Model} {A : Around} {E : Value → Shared → Prop} {s : Shared} {tg : Expr} {it : Addr} {u : Value} {o : Obj} {n : String} {vs : Array Value} {Q : Unit → Shared → Prop} (ho : s.heap.get? it = some o) (hc : o.cls = .type n) (hd : o.data = .fields vs)
    (hn : ["enumerate", "zip", "dict_itemiterator", "dict_reverseitemiterator", "odict_iterator", "itertools.zip_longest", "itertools.pairwise"].contains n = false) (hQ : Q () s) : wpAny M A (letOwnedTupleGo tg (.ref it) u) Q E s := by
  unfold letOwnedTupleGo
  cases tg <;> first
    | exact wpAny_pure hQ
    | (cases u <;> first
        | exact wpAny_pure hQ
        | (refine wpAny_bind (wpAny_load ho ?_)
           rw [hc, hd]
           show wpAny M A (if (["enumerate", "zip", "dict_itemiterator", "dict_reverseitemiterator", "odict_iterator", "itertools.zip_longest", "itertools.pairwise"].contains n && vs[0]? == some (rawInt _)) = true then _ else _) Q E s
           rw [if_neg (by intro h; rw [hn, Bool.false_and] at h; cases h)]
           exact wpAny_pure hQ))

/-- the list at a, as it stands at each turn (a loop may append to it) -/
noncomputable def Itl (K : PySem.W.Frag) (a : Addr) : It :=
  ⟨fun i H => ∃ xs x, SqL K H a xs ∧ xs[i]? = some x, fun i H x H' => H' = H ∧ ∀ xs, SqL K H a xs → xs[i]? = some x, fun i H => ∃ xs, SqL K H a xs ∧ xs.length ≤ i⟩
/-- lo, lo + 1, .. (n of them) -/
noncomputable def Itr (lo : Int) (n : Nat) : It := ⟨fun i _ => i < n, fun i H x H' => H' = H ∧ x = .int (lo + i), fun i _ => n ≤ i⟩
theorem turn_list {P : Program} {w : World} {K : PySem.W.Frag} {tg : Expr} (a it : Addr) : Turn P w K tg (Itl K a) [it] it (fun i h => h.IsListIter it a i) where
  mem := by simp
  obj := fun i h st b hb => by
    have e : b = it := by simpa using hb
    subst e
    obtain ⟨o, e, c, d⟩ := st
    exact ⟨o, e, fun v z => by rw [d] at z; cases z⟩
  keep := fun i h h' st k => st.at fun o e => k it (by simp) o e
  item := by
    intro X hP hw hK hc i pins s σ H E I hf st hg
    subst hP hw hK
    obtain ⟨xs, x, hq, hx⟩ := hg
    obtain ⟨its, rv, p, hz⟩ := I.list hq
    obtain ⟨u, hu, ru⟩ := rv.get hx
    obtain ⟨f0, f1, f2, f3, f4, f5⟩ := hf it (by simp)
    refine wpAny_pyNext_list_item st p.isList (x := u) (by simpa using hu) fun h' st' sb => ?_
    have I1 : Inv X pins σ H { s with heap := h' } := I.turned (t' := s.toks) (fun b o hb e => (sb.2 b hb).trans e) f0 f1 f3 f4 f5
    obtain ⟨o, e, c, d⟩ := id st'
    exact ⟨u, rfl, go_of (s := { s with heap := h' }) e c d (by decide) ⟨x, H, I1, ru, ⟨rfl, fun ys hy => by rw [I.list_inj hy hq]; exact hx⟩, st', fun b hb => (hf b hb).1⟩⟩
  done := by
    intro X hP hw hK hc i pins s σ H E I hf st hg
    subst hP hw hK
    obtain ⟨xs, hq, hx⟩ := hg
    obtain ⟨its, rv, p, hz⟩ := I.list hq
    obtain ⟨f0, f1, f2, f3, f4, f5⟩ := hf it (by simp)
    have hl := rv.length
    exact wpAny_pyNext_list_end (I.ok.hd hc) st p.isList (by simp; omega) fun h' eb => ⟨rfl, I.turned (t' := s.toks) (fun b o hb e => eb b o hb e) f0 f1 f3 f4 f5⟩
  self := fun _ _ _ _ _ st h => wpAny_pyIter_listiter st h
theorem turn_range {P : Program} {w : World} {K : PySem.W.Frag} {tg : Expr} (it : Addr) (lo : Int) (n : Nat) : Turn P w K tg (Itr lo n) [it] it (fun i h => IsRangeIter h it (lo + (i : Nat) * 1) ((n : Int) - (i : Nat)) 1) where
  mem := by simp
  obj := fun i h st b hb => by
    have e : b = it := by simpa using hb
    subst e
    exact ⟨_, st, fun v z => by
      have z' : Data.fields _ = Data.cell v := z
      cases z'⟩
  keep := fun i h h' st k => k it (by simp) _ st
  item := by
    intro X hP hw hK hc i pins s σ H E I hf st hg
    subst hP hw hK
    obtain ⟨f0, f1, f2, f3, f4, f5⟩ := hf it (by simp)
    have W := Walks.range (prog := X.prog) (w := X.w) (I.ok.hd hc) it lo 1 n
    refine W.item i s _ _ hg st fun v h' tk hv st' kk => ?_
    obtain ⟨t, rfl⟩ := hv
    have I1 : Inv X pins σ H { s with heap := h', toks := tk } := I.turned (fun b o hb e => kk b o (by simpa using hb) e) f0 f1 f3 f4 f5
    refine ⟨_, rfl, go_of (s := { s with heap := h', toks := tk }) (n := "range_iterator") st' rfl rfl (by decide) ⟨.int (lo + i), H, I1, ⟨t, ?_⟩, ⟨rfl, rfl⟩, st', fun b hb => (hf b hb).1⟩⟩
    rw [Int.mul_one]
  done := by
    intro X hP hw hK hc i pins s σ H E I hf st hg
    subst hP hw hK
    obtain ⟨f0, f1, f2, f3, f4, f5⟩ := hf it (by simp)
    exact wpAny_pyNext_range_end (I.ok.hd hc) st (by have : n ≤ i := hg; omega) fun h' eb => ⟨rfl, I.turned (t' := s.toks) (fun b o hb e => eb b o hb e) f0 f1 f3 f4 f5⟩
  self := fun _ _ _ _ _ st h => wpAny_pyIter_rangeiter st h
end L2

namespace L2
open PySem PySem.Spec PyProof.Rows
section
variable {X : Cx} {tg : Expr}
noncomputable def iList (K : PySem.W.Frag) (tl : TE) : TI := fun σ H R => tl σ H fun x H1 => ∃ a, x = .ref a ∧ (∃ xs, SqL K H1 a xs) ∧ R (Itl K a) H1
theorem pi_list {l : Expr} {tl : TE} (hl : PE X l tl) : PI X tg l (iList X.K tl) := by
  intro pins s σ H R I h
  refine thn (hl pins s σ H _ I h) fun v s1 ⟨x, H1, I1, r1, q1⟩ => ?_
  obtain ⟨a, e, ⟨xs, hq⟩, q⟩ := q1
  subst e
  cases r1
  obtain ⟨its, rv, p, hz⟩ := I1.list hq
  refine wpAny_pyIter_list p.isList ?_
  refine ⟨s1.heap.objs.size, [s1.heap.objs.size], _, _, H1, rfl, I1.kept (t' := s1.toks) fun b o e => Heap.get?_push_of_some _ e, turn_list a _, ⟨_, Heap.get?_push_size _ rfl, rfl, rfl⟩, fun b hb => ?_, q⟩
  have e : b = s1.heap.objs.size := by simpa using hb
  subst e
  exact I1.fpOk (Nat.le_refl _) (I1.hok.fresh (Nat.le_refl _))
/-- a range object just made, walked -/
theorem range_it {pins : List (Addr × Obj)} {σ : St} {H : Hp} {s : Shared} {R : It → Hp → Prop} {E : Value → Shared → Prop} {lo hi : Int} {t u v : Tok} {tk : Nat} (I : Inv X pins σ H s) (h1 : -(2 ^ 62) ≤ lo) (h2 : lo < 2 ^ 62) (h3 : -(2 ^ 62) ≤ hi) (h4 : hi < 2 ^ 62)
    (q : R (Itr lo (hi - lo).toNat) H) : wpAny (model X.prog X.w) X.A (pyIter (.ref s.heap.objs.size)) (PIE X pins σ tg R) E { s with heap := s.heap.push { cls := .type "range", data := .fields #[.int lo t, .int hi u, .int 1 v] }, toks := tk } := by
  refine wpAny_pyIter_range (IsRange.new ..) (small_one h1 h2 h3 h4) ?_
  have I1 : Inv X pins σ H { s with heap := s.heap.push { cls := .type "range", data := .fields #[.int lo t, .int hi u, .int 1 v] }, toks := tk } := I.kept fun b o e => Heap.get?_push_of_some _ e
  refine ⟨(s.heap.push { cls := .type "range", data := .fields #[.int lo t, .int hi u, .int 1 v] }).objs.size, [(s.heap.push { cls := .type "range", data := .fields #[.int lo t, .int hi u, .int 1 v] }).objs.size], _, _, H, rfl,
    I1.kept (t' := tk) fun b o e => Heap.get?_push_of_some _ e, turn_range _ lo (hi - lo).toNat, ?_, fun b hb => ?_, q⟩
  · have e1 : lo + ((0 : Nat) : Int) * 1 = lo := by simp
    have e2 : (((hi - lo).toNat : Nat) : Int) - ((0 : Nat) : Int) = Builtin.Range.rangeSize lo hi 1 := by rw [rangeSize_one]; split <;> omega
    show IsRangeIter _ _ (lo + ((0 : Nat) : Int) * 1) ((((hi - lo).toNat : Nat) : Int) - ((0 : Nat) : Int)) 1
    rw [e1, e2]
    exact Heap.get?_push_size _ rfl
  · have e : b = (s.heap.push { cls := .type "range", data := .fields #[.int lo t, .int hi u, .int 1 v] }).objs.size := by simpa using hb
    subst e
    exact I1.fpOk (Nat.le_refl _) (I1.hok.fresh (Nat.le_refl _))
noncomputable def iRng1 (ta : TA) : TI := fun σ H R => ta σ H fun vs H1 => ∃ j : Int, vs = [.int j] ∧ -(2 ^ 62) ≤ j ∧ j < 2 ^ 62 ∧ R (Itr 0 j.toNat) H1
theorem pi_range1 {a : Expr} {ta : TA} {p pos : Pos} (hg : Gl X "range") (hm : X.mg "range" = none) (ha : PA X [a] ta) (hs : starEach [a] X.env = [(false, eval a X.env)] := by rfl) : PI X tg (.Call (.Name "range" p) [a] [] pos) (iRng1 ta) := by
  intro pins s σ H R I h
  refine Call_ (ld_blt I hg hm boot_range (PyProof.Rows.callWith_type1 (thn (ha pos pins s σ H _ I h) fun us s1 ⟨vs, H1, I1, r1, q1⟩ => ?_) hs rfl))
  obtain ⟨j, e, q1, q2, q⟩ := q1
  subst e
  cases r1 with
  | cons r rr =>
    cases rr
    obtain ⟨t, rfl⟩ := r
    exact call_range_1 (range_it I1 (by omega) (by omega) q1 q2 (by simpa using q))
/-! ### for -/
/-- W: the invariant by the turn and a measure; N: what the body is to reach -/
noncomputable def tFor (wi : TI) (g : TG) (tb : TS) : TS := fun D σ H => wi σ H fun J H1 => ∃ W : Nat → Nat → St → Hp → Prop, (∃ m, W 0 m σ H1) ∧ ∀ i m σ H, W i m σ H →
  (J.stop i H ∧ D.nx σ H) ∨ (J.go i H ∧ ∃ N : St → Hp → Prop, (∀ σ' H', N σ' H' → ∃ m', m' < m ∧ W (i + 1) m' σ' H') ∧ ∀ x H', J.yld i H x H' → g x σ H' fun σ2 H2 => tb { D with nx := N, ct := N, bk := D.nx } σ2 H2)
/-- the records at fp as they stand -/
noncomputable def pinsAt (fp : List Addr) (h : Heap) : List (Addr × Obj) := fp.filterMap fun b => (h.get? b).map fun o => (b, o)
theorem mem_pinsAt {fp : List Addr} {h : Heap} {b : Addr} {o : Obj} (hb : b ∈ fp) (e : h.get? b = some o) : (b, o) ∈ pinsAt fp h := List.mem_filterMap.mpr ⟨b, hb, by rw [e]; rfl⟩
theorem of_pinsAt {fp : List Addr} {h : Heap} {p : Addr × Obj} (hp : p ∈ pinsAt fp h) : p.1 ∈ fp ∧ h.get? p.1 = some p.2 := by
  obtain ⟨b, hb, e⟩ := List.mem_filterMap.mp hp
  cases q : h.get? b with
  | none => rw [q] at e; cases e
  | some o =>
    rw [q] at e
    have e' : (b, o) = p := Option.some.inj e
    subst e'
    exact ⟨hb, q⟩
theorem Inv.pinned {pins : List (Addr × Obj)} {σ : St} {H : Hp} {s : Shared} {fp : List Addr} (I : Inv X pins σ H s) (hf : ∀ b ∈ fp, FpOk X pins H b) (ho : ∀ b ∈ fp, ∃ o, s.heap.get? b = some o ∧ ∀ v, o.data ≠ .cell v) : Inv X (pins ++ pinsAt fp s.heap) σ H s :=
  I.pins_of fun p hp => (List.mem_append.mp hp).elim (fun z => I.pin p (List.mem_append_right _ z)) fun z => by
    obtain ⟨hb, e⟩ := of_pinsAt z
    obtain ⟨f0, f1, f2, _⟩ := hf p.1 hb
    obtain ⟨o, e', d⟩ := ho p.1 hb
    rw [e] at e'; cases e'
    exact ⟨e, f0, f1, f2, d⟩
theorem Inv.unpinned {pins pl : List (Addr × Obj)} {σ : St} {H : Hp} {s : Shared} (I : Inv X (pins ++ pl) σ H s) : Inv X pins σ H s := I.pins_of fun p hp => I.pin p (List.mem_append_right _ (List.mem_append_left _ hp))
theorem ps_for {iter : Expr} {body : List Stmt} {wi : TI} {g : TG} {tb : TS} {pos : Pos} (hp : PassesOwn (model X.prog X.w) X.A X.env X.xe) (hc : X.calm = true) (hi : PI X tg iter wi) (hg : PG X tg g) (hb : PSs X body tb)
    (hs : ∀ x, foldedSetIterable iter X.env x = pure x := by intro _; rfl) : PS X (.For tg iter body [] pos) (tFor wi g tb) := by
  intro pins s σ H D I h
  refine wpAny_For (thn (hi pins s σ H _ I h) fun v s1 h1 => thn h1 fun itv s2 h2 => ?_) hs
  obtain ⟨it, fp, tn, J, H2, e, I2, T, st2, f2, W, ⟨m0, w0⟩, turn⟩ := h2
  subst e
  -- what stays true of the iterator's objects through the loop
  have stat : ∀ {H' : Hp}, (∀ b ∈ fp, H' b = none) → ∀ b ∈ fp, FpOk X pins H' b := fun hn b hb => ⟨hn b hb, (f2 b hb).2⟩
  refine codeAny_forLoop_any (fun n s' => ∃ i σ' H', Inv X pins σ' H' s' ∧ tn i s'.heap ∧ (∀ b ∈ fp, H' b = none) ∧ W i n σ' H') ?_ m0 ⟨0, σ, H2, I2, st2, fun b hb => (f2 b hb).1, w0⟩
  rintro n s3 ⟨i, σ3, H3, I3, st3, fr3, w3⟩
  rcases turn i n σ3 H3 w3 with ⟨stop, qn⟩ | ⟨go, N, hN, step⟩
  · refine wpAny_passesOwn hp (thn (T.done X rfl rfl rfl hc i pins s3 σ3 H3 X.xe I3 (stat fr3) st3 stop) fun r s4 ⟨hr, I4⟩ => ?_)
    subst hr
    exact wpAny_execs_nil ⟨σ3, H3, I4, qn⟩
  · refine wpAny_passesOwn hp (thn (T.item X rfl rfl rfl hc i pins s3 σ3 H3 X.xe I3 (stat fr3) st3 go) fun r s4 ⟨u, hr, h4⟩ => ?_)
    subst hr
    refine wpAny_passesOwn hp (thn h4 fun _ s5 ⟨x, H5, I5, r5, y5, st5, fr5⟩ => ?_)
    have I5' := I5.pinned (stat fr5) (T.obj _ _ st5)
    refine wpAny_passesOwn hp (thn (hg _ s5 σ3 H5 x u _ I5' r5 (step x H5 y5)) fun _ s6 ⟨σ6, H6, I6, q6⟩ => ?_)
    refine wpAny_passesOwn hp (thn (hb _ s6 σ6 H6 _ I6 q6) fun f s7 q7 => ?_)
    have again : ∀ {σ7 : St} {H7 : Hp}, Inv X (pins ++ pinsAt fp s5.heap) σ7 H7 s7 → N σ7 H7 → ∃ m, m < n ∧ ∃ i σ' H', Inv X pins σ' H' s7 ∧ tn i s7.heap ∧ (∀ b ∈ fp, H' b = none) ∧ W i m σ' H' := fun {σ7 H7} I7 n7 => by
      obtain ⟨m', hm, w7⟩ := hN σ7 H7 n7
      refine ⟨m', hm, i + 1, σ7, H7, I7.unpinned, T.keep _ _ _ st5 fun b hb o e => (I7.pin (b, o) (List.mem_append_right _ (List.mem_append_right _ (mem_pinsAt hb e)))).1, fun b hb => ?_, w7⟩
      obtain ⟨o, e, d⟩ := T.obj _ _ st5 b hb
      exact (I7.pin (b, o) (List.mem_append_right _ (List.mem_append_right _ (mem_pinsAt hb e)))).2.1
    cases f with
    | next => obtain ⟨σ7, H7, I7, n7⟩ := q7; exact again I7 n7
    | cont => obtain ⟨σ7, H7, I7, n7⟩ := q7; exact again I7 n7
    | brk => obtain ⟨σ7, H7, I7, q7⟩ := q7; exact ⟨σ7, H7, I7.unpinned, q7⟩
    | ret v => obtain ⟨x7, σ7, H7, I7, r7, q7⟩ := q7; exact ⟨x7, σ7, H7, I7.unpinned, r7, q7⟩
end

/-! ### the forms one uses -/
/-- over a list that the body leaves as it is -/
theorem for_list {K : PySem.W.Frag} {a : Addr} {xs : List V} {g : TG} {tb : TS} {D : Ends} {σ : St} {H : Hp} (Pv : Nat → St → Hp → Prop) (h0 : Pv 0 σ H) (hl : ∀ i σ H, i ≤ xs.length → Pv i σ H → SqL K H a xs)
    (hs : ∀ i x σ H, xs[i]? = some x → Pv i σ H → g x σ H fun σ2 H2 => tb { D with nx := Pv (i + 1), ct := Pv (i + 1), bk := D.nx } σ2 H2) (hd : ∀ σ H, Pv xs.length σ H → D.nx σ H) :
    ∃ W : Nat → Nat → St → Hp → Prop, (∃ m, W 0 m σ H) ∧ ∀ i m σ H, W i m σ H →
      ((Itl K a).stop i H ∧ D.nx σ H) ∨ ((Itl K a).go i H ∧ ∃ N : St → Hp → Prop, (∀ σ' H', N σ' H' → ∃ m', m' < m ∧ W (i + 1) m' σ' H') ∧ ∀ x H', (Itl K a).yld i H x H' → g x σ H' fun σ2 H2 => tb { D with nx := N, ct := N, bk := D.nx } σ2 H2) := by
  refine ⟨fun i m σ H => m = xs.length - i ∧ i ≤ xs.length ∧ Pv i σ H, ⟨xs.length, by simp, Nat.zero_le _, h0⟩, ?_⟩
  rintro i m σ H ⟨rfl, hi, p⟩
  have q := hl i σ H hi p
  by_cases hlt : i < xs.length
  · refine .inr ⟨⟨xs, xs[i], q, by simp [hlt]⟩, Pv (i + 1), fun σ' H' p' => ⟨xs.length - (i + 1), by omega, rfl, hlt, p'⟩, fun x H' y => ?_⟩
    obtain ⟨e, y⟩ := y
    subst e
    exact hs i x σ _ (y xs q) p
  · have e : i = xs.length := by omega
    subst e
    exact .inl ⟨⟨xs, q, Nat.le_refl _⟩, hd σ H p⟩
theorem for_range {lo : Int} {n : Nat} {g : TG} {tb : TS} {D : Ends} {σ : St} {H : Hp} (Pv : Nat → St → Hp → Prop) (h0 : Pv 0 σ H)
    (hs : ∀ i σ H, i < n → Pv i σ H → g (.int (lo + i)) σ H fun σ2 H2 => tb { D with nx := Pv (i + 1), ct := Pv (i + 1), bk := D.nx } σ2 H2) (hd : ∀ σ H, Pv n σ H → D.nx σ H) :
    ∃ W : Nat → Nat → St → Hp → Prop, (∃ m, W 0 m σ H) ∧ ∀ i m σ H, W i m σ H →
      ((Itr lo n).stop i H ∧ D.nx σ H) ∨ ((Itr lo n).go i H ∧ ∃ N : St → Hp → Prop, (∀ σ' H', N σ' H' → ∃ m', m' < m ∧ W (i + 1) m' σ' H') ∧ ∀ x H', (Itr lo n).yld i H x H' → g x σ H' fun σ2 H2 => tb { D with nx := N, ct := N, bk := D.nx } σ2 H2) := by
  refine ⟨fun i m σ H => m = n - i ∧ i ≤ n ∧ Pv i σ H, ⟨n, by simp, Nat.zero_le _, h0⟩, ?_⟩
  rintro i m σ H ⟨rfl, hi, p⟩
  by_cases hlt : i < n
  · refine .inr ⟨hlt, Pv (i + 1), fun σ' H' p' => ⟨n - (i + 1), by omega, rfl, hlt, p'⟩, fun x H' y => ?_⟩
    obtain ⟨e, y⟩ := y
    subst e y
    exact hs i σ _ hlt p
  · have e : i = n := by omega
    subst e
    exact .inl ⟨Nat.le_refl _, hd σ H p⟩
end L2

namespace L2
open PySem PySem.Spec PyProof.Rows

noncomputable abbrev R2 := V → V → Hp → VK → Prop
/-- a two-place operation on values: f is binaryOp op, inplaceOp op or compareOp op -/
noncomputable def OpR (X : Cx) (f : Value → Value → Sem Value) (r : R2) : Prop :=
  ∀ (pins : List (Addr × Obj)) (s : Shared) (σ : St) (H : Hp) (x y : V) (v u : Value) (Q : VK), Inv X pins σ H s → RelV x v → RelV y u → r x y H Q →
    wpAny (model X.prog X.w) X.A (f v u) (EP X pins σ Q) X.xe s
/-- a one-place operation -/
noncomputable def UnR (X : Cx) (f : Value → Sem Value) (r : V → Hp → VK → Prop) : Prop :=
  ∀ (pins : List (Addr × Obj)) (s : Shared) (σ : St) (H : Hp) (x : V) (v : Value) (Q : VK), Inv X pins σ H s → RelV x v → r x H Q →
    wpAny (model X.prog X.w) X.A (f v) (EP X pins σ Q) X.xe s
/-- a call of a value that is known (a builtin, a type) with values -/
noncomputable def CallR (X : Cx) (f : Value) (r : List V → Hp → VK → Prop) : Prop :=
  ∀ (pins : List (Addr × Obj)) (s : Shared) (σ : St) (H : Hp) (xs : List V) (us : List Value) (Q : VK), Inv X pins σ H s → Vals xs us → r xs H Q →
    wpAny (model X.prog X.w) X.A (call f us) (EP X pins σ Q) X.xe s
noncomputable def tOp (r : R2) (ta tb : TE) : TE := fun σ H Q => ta σ H fun x H1 => tb σ H1 fun y H2 => r x y H2 Q
noncomputable def tUn (r : V → Hp → VK → Prop) (ta : TE) : TE := fun σ H Q => ta σ H fun x H1 => r x H1 Q
/-- ints in, under C, and a value out -/
noncomputable def rI (C : Int → Int → Prop) (g : Int → Int → V) : R2 := fun x y H Q => ∃ i j, x = .int i ∧ y = .int j ∧ C i j ∧ Q (g i j) H
noncomputable def rI0 (g : Int → Int → V) : R2 := fun x y H Q => ∃ i j, x = .int i ∧ y = .int j ∧ Q (g i j) H
noncomputable def rU (g : Int → V) : V → Hp → VK → Prop := fun x H Q => ∃ i, x = .int i ∧ Q (g i) H

section
variable {X : Cx} {a b c : Expr} {ta tb tc : TE} {pos : Pos}

theorem binT (ha : PE X a ta) (hb : PE X b tb) {pins : List (Addr × Obj)} {s : Shared} {σ : St} {H : Hp} {R : V → V → Hp → Prop} (I : Inv X pins σ H s)
    (h : ta σ H fun x H1 => tb σ H1 fun y H2 => R x y H2) {Q : Value → Shared → Prop} {f : Value → Value → Sem Value}
    (hf : ∀ v u s2 x y H2, Inv X pins σ H2 s2 → RelV x v → RelV y u → R x y H2 → wpAny (model X.prog X.w) X.A (f v u) Q X.xe s2) :
    wpAny (model X.prog X.w) X.A (eval a X.env) (fun v s₁ => wpAny (model X.prog X.w) X.A (eval b X.env) (fun u s₂ => wpAny (model X.prog X.w) X.A (f v u) Q X.xe s₂) X.xe s₁) X.xe s := by
  refine thn (ha pins s σ H _ I h) fun v s1 ⟨x, H1, I1, r1, q1⟩ => ?_
  refine thn (hb pins s1 σ H1 _ I1 q1) fun u s2 ⟨y, H2, I2, r2, q2⟩ => ?_
  exact hf v u s2 x y H2 I2 r1 r2 q2

theorem pe_op {op : Operator} {r : R2} (ho : OpR X (binaryOp op) r) (ha : PE X a ta) (hb : PE X b tb) : PE X (.BinOp a op b pos) (tOp r ta tb) := by
  intro pins s σ H Q I h
  exact wpAny_BinOp (binT ha hb I h fun v u s2 x y H2 I2 rx ry q => ho pins s2 σ H2 x y v u Q I2 rx ry q)
theorem pe_un {op : UnaryOp} {r : V → Hp → VK → Prop} (ho : UnR X (unaryOp op) r) (ha : PE X a ta) : PE X (.UnaryOp op a pos) (tUn r ta) := by
  intro pins s σ H Q I h
  exact UnaryOp_ (thn (ha pins s σ H _ I h) fun v s1 ⟨x, H1, I1, r1, q1⟩ => ho pins s1 σ H1 x v Q I1 r1 q1)
/-! ### ints -/
theorem opI {f : Value → Value → Sem Value} {C : Int → Int → Prop} {g : Int → Int → Int}
    (rule : ∀ (i j : Int) (t u : Tok) (s : Shared) (Q : Value → Shared → Prop) (E : Value → Shared → Prop), C i j → Q (.int (g i j) s.toks) { s with toks := s.toks + 1 } → wpAny (model X.prog X.w) X.A (f (.int i t) (.int j u)) Q E s) :
    OpR X f (rI C fun i j => .int (g i j)) := by
  intro pins s σ H x y v u Q I rx ry h
  obtain ⟨i, j, rfl, rfl, hc, q⟩ := h
  obtain ⟨t, rfl⟩ := rx
  obtain ⟨t', rfl⟩ := ry
  exact rule i j t t' s _ _ hc ⟨.int (g i j), H, I.tok _, ⟨_, rfl⟩, q⟩
theorem opI0 {f : Value → Value → Sem Value} {g : Int → Int → Int}
    (rule : ∀ (i j : Int) (t u : Tok) (s : Shared) (Q : Value → Shared → Prop) (E : Value → Shared → Prop), Q (.int (g i j) s.toks) { s with toks := s.toks + 1 } → wpAny (model X.prog X.w) X.A (f (.int i t) (.int j u)) Q E s) :
    OpR X f (rI0 fun i j => .int (g i j)) := by
  intro pins s σ H x y v u Q I rx ry h
  obtain ⟨i, j, rfl, rfl, q⟩ := h
  obtain ⟨t, rfl⟩ := rx
  obtain ⟨t', rfl⟩ := ry
  exact rule i j t t' s _ _ ⟨.int (g i j), H, I.tok _, ⟨_, rfl⟩, q⟩
theorem opB0 {f : Value → Value → Sem Value} {g : Int → Int → Bool}
    (rule : ∀ (i j : Int) (t u : Tok) (s : Shared) (Q : Value → Shared → Prop) (E : Value → Shared → Prop), Q (.bool (g i j)) s → wpAny (model X.prog X.w) X.A (f (.int i t) (.int j u)) Q E s) :
    OpR X f (rI0 fun i j => .bl (g i j)) := by
  intro pins s σ H x y v u Q I rx ry h
  obtain ⟨i, j, rfl, rfl, q⟩ := h
  obtain ⟨t, rfl⟩ := rx
  obtain ⟨t', rfl⟩ := ry
  exact rule i j t t' s _ _ ⟨.bl (g i j), H, I, rfl, q⟩

noncomputable def CMul (i j : Int) : Prop := (-(2 ^ 64) < i ∧ i < 2 ^ 64) ∨ (-(2 ^ 64) < j ∧ j < 2 ^ 64)
theorem CMul.ok {i j : Int} (h : CMul i j) : IntMulOk i j := by
  rcases h with ⟨h1, h2⟩ | ⟨h1, h2⟩
  · exact .of_left (intBits_le_64 h1 h2)
  · exact .of_right (intBits_le_64 h1 h2)
theorem op_add : OpR X (binaryOp .Add) (rI0 fun i j => .int (i + j)) := opI0 fun _ _ _ _ _ _ _ q => add_int q
theorem op_sub : OpR X (binaryOp .Sub) (rI0 fun i j => .int (i - j)) := opI0 fun _ _ _ _ _ _ _ q => sub_int q
theorem op_mul : OpR X (binaryOp .Mult) (rI CMul fun i j => .int (i * j)) := opI fun _ _ _ _ _ _ _ hc q => mul_int q hc.ok
/-- % by a positive divisor of any size -/
theorem op_mod : OpR X (binaryOp .Mod) (rI (fun _ j => 0 < j) fun i j => .int (i % j)) := opI fun i j _ _ _ _ _ hc q => by
  have h1 : (0 : Int) < j := hc
  exact mod_int' (by omega) (by rw [Int.fmod_eq_emod_of_nonneg i (by omega)]; exact q)
theorem unI {f : Value → Sem Value} {g : Int → Int}
    (rule : ∀ (i : Int) (t : Tok) (s : Shared) (Q : Value → Shared → Prop) (E : Value → Shared → Prop), Q (.int (g i) s.toks) { s with toks := s.toks + 1 } → wpAny (model X.prog X.w) X.A (f (.int i t)) Q E s) :
    UnR X f (rU fun i => .int (g i)) := by
  intro pins s σ H x v Q I rx h
  obtain ⟨i, rfl, q⟩ := h
  obtain ⟨t, rfl⟩ := rx
  exact rule i t s _ _ ⟨.int (g i), H, I.tok _, ⟨_, rfl⟩, q⟩
theorem un_neg : UnR X (unaryOp .USub) (rU fun i => .int (-i)) := unI fun _ _ _ _ _ q => neg_int q
/-! ### bools among ints: n += (a < b) -/
end

/-! ### comparisons -/
/-- the scalars that == tells apart as data does -/
noncomputable def scal : V → V → Bool
  | .non, .non => true | .non, .int _ => true | .int _, .non => true | .non, .bl _ => true | .bl _, .non => true | .non, .str _ => true | .str _, .non => true
  | .int _, .int _ => true | .bl _, .bl _ => true | .str _, .str _ => true | .byt _, .byt _ => true
  | .int _, .str _ => true | .str _, .int _ => true | .bl _, .str _ => true | .str _, .bl _ => true
  | _, _ => false
noncomputable def rEq : R2 := fun x y H Q => scal x y = true ∧ Q (.bl (decide (x = y))) H
noncomputable def rNe : R2 := fun x y H Q => scal x y = true ∧ Q (.bl (!decide (x = y))) H

theorem dec_int {i j : Int} : decide (V.int i = V.int j) = (i == j) := by
  rw [Bool.eq_iff_iff]
  simp
theorem dec_bl {i j : Bool} : decide (V.bl i = V.bl j) = (i == j) := by
  rw [Bool.eq_iff_iff]
  simp
theorem dec_str {i j : Str} : decide (V.str i = V.str j) = (i == j) := by
  rw [Bool.eq_iff_iff]
  simp
theorem dec_byt {i j : Array UInt8} : decide (V.byt i = V.byt j) = (i.toList == j.toList) := by
  rw [Bool.eq_iff_iff]
  cases i
  cases j
  simp

section
variable {X : Cx} {a b c : Expr} {ta tb tc : TE} {pos : Pos}
theorem fin_bl {pins : List (Addr × Obj)} {σ : St} {H : Hp} {s : Shared} {Q : VK} {k k' : Bool} (I : Inv X pins σ H s) (q : Q (.bl k) H) (e : k = k') : EP X pins σ Q (.bool k') s := by
  subst e
  exact ⟨.bl k, H, I, rfl, q⟩
theorem op_eq : OpR X (compareOp .Eq) rEq := by
  intro pins s σ H x y v u Q I rx ry h
  obtain ⟨hs, q⟩ := h
  cases x with
  | non =>
    cases rx
    cases y with
    | non => cases ry; exact PySem.EqNone.eq_none_none (fin_bl I q (by simp))
    | bl j => cases ry; exact PySem.EqNone.eq_none_bool (fin_bl I q (by simp))
    | int j => obtain ⟨t', rfl⟩ := ry; exact PySem.EqNone.eq_none_int (fin_bl I q (by simp))
    | str j => obtain ⟨t', rfl⟩ := ry; exact PySem.EqNone.eq_none_str (fin_bl I q (by simp))
    | _ => exact absurd (show false = true from hs) Bool.false_ne_true
  | bl i =>
    cases rx
    cases y with
    | non => cases ry; exact PySem.EqNone.eq_bool_none (fin_bl I q (by simp))
    | bl j => cases ry; exact eq_bool (fin_bl I q dec_bl)
    | str j => obtain ⟨t', rfl⟩ := ry; exact PySem.EqMixed.eq_bool_str (fin_bl I q (by simp))
    | _ => exact absurd (show false = true from hs) Bool.false_ne_true
  | int i =>
    obtain ⟨t, rfl⟩ := rx
    cases y with
    | non => cases ry; exact PySem.EqNone.eq_int_none (fin_bl I q (by simp))
    | int j => obtain ⟨t', rfl⟩ := ry; exact eq_int (fin_bl I q dec_int)
    | str j => obtain ⟨t', rfl⟩ := ry; exact PySem.EqMixed.eq_int_str (fin_bl I q (by simp))
    | _ => exact absurd (show false = true from hs) Bool.false_ne_true
  | str i =>
    obtain ⟨t, rfl⟩ := rx
    cases y with
    | non => cases ry; exact PySem.EqNone.eq_str_none (fin_bl I q (by simp))
    | bl j => cases ry; exact PySem.EqMixed.eq_str_bool (fin_bl I q (by simp))
    | int j => obtain ⟨t', rfl⟩ := ry; exact PySem.EqMixed.eq_str_int (fin_bl I q (by simp))
    | str j => obtain ⟨t', rfl⟩ := ry; exact eq_str (fin_bl I q dec_str)
    | _ => exact absurd (show false = true from hs) Bool.false_ne_true
  | byt i =>
    obtain ⟨t, rfl⟩ := rx
    cases y with
    | byt j => obtain ⟨t', rfl⟩ := ry; exact PySem.W.eq_bytes (fin_bl I q dec_byt)
    | _ => exact absurd (show false = true from hs) Bool.false_ne_true
  | _ => cases y <;> exact absurd (show false = true from hs) Bool.false_ne_true
theorem op_ne : OpR X (compareOp .NotEq) rNe := by
  intro pins s σ H x y v u Q I rx ry h
  obtain ⟨hs, q⟩ := h
  cases x with
  | non =>
    cases rx
    cases y with
    | non => cases ry; exact PySem.EqNone.ne_none_none (fin_bl I q (by simp))
    | bl j => cases ry; exact PySem.EqNone.ne_none_bool (fin_bl I q (by simp))
    | int j => obtain ⟨t', rfl⟩ := ry; exact PySem.EqNone.ne_none_int (fin_bl I q (by simp))
    | str j => obtain ⟨t', rfl⟩ := ry; exact PySem.EqNone.ne_none_str (fin_bl I q (by simp))
    | _ => exact absurd (show false = true from hs) Bool.false_ne_true
  | bl i =>
    cases rx
    cases y with
    | non => cases ry; exact PySem.EqNone.ne_bool_none (fin_bl I q (by simp))
    | bl j => cases ry; exact ne_bool (fin_bl I q (congrArg not dec_bl))
    | str j => obtain ⟨t', rfl⟩ := ry; exact PySem.EqMixed.ne_bool_str (fin_bl I q (by simp))
    | _ => exact absurd (show false = true from hs) Bool.false_ne_true
  | int i =>
    obtain ⟨t, rfl⟩ := rx
    cases y with
    | non => cases ry; exact PySem.EqNone.ne_int_none (fin_bl I q (by simp))
    | int j => obtain ⟨t', rfl⟩ := ry; exact ne_int (fin_bl I q (congrArg not dec_int))
    | str j => obtain ⟨t', rfl⟩ := ry; exact PySem.EqMixed.ne_int_str (fin_bl I q (by simp))
    | _ => exact absurd (show false = true from hs) Bool.false_ne_true
  | str i =>
    obtain ⟨t, rfl⟩ := rx
    cases y with
    | non => cases ry; exact PySem.EqNone.ne_str_none (fin_bl I q (by simp))
    | bl j => cases ry; exact PySem.EqMixed.ne_str_bool (fin_bl I q (by simp))
    | int j => obtain ⟨t', rfl⟩ := ry; exact PySem.EqMixed.ne_str_int (fin_bl I q (by simp))
    | str j => obtain ⟨t', rfl⟩ := ry; exact ne_str (fin_bl I q (congrArg not dec_str))
    | _ => exact absurd (show false = true from hs) Bool.false_ne_true
  | byt i =>
    obtain ⟨t, rfl⟩ := rx
    cases y with
    | byt j => obtain ⟨t', rfl⟩ := ry; exact PySem.W.ne_bytes (fin_bl I q (congrArg not dec_byt))
    | _ => exact absurd (show false = true from hs) Bool.false_ne_true
  | _ => cases y <;> exact absurd (show false = true from hs) Bool.false_ne_true

theorem op_lt : OpR X (compareOp .Lt) (rI0 fun i j => .bl (decide (i < j))) := opB0 fun _ _ _ _ _ _ _ q => lt_int q
theorem op_le : OpR X (compareOp .LtE) (rI0 fun i j => .bl (decide (i ≤ j))) := opB0 fun _ _ _ _ _ _ _ q => le_int q
theorem op_gt : OpR X (compareOp .Gt) (rI0 fun i j => .bl (decide (j < i))) := opB0 fun _ _ _ _ _ _ _ q => gt_int q
theorem op_ge : OpR X (compareOp .GtE) (rI0 fun i j => .bl (decide (j ≤ i))) := opB0 fun _ _ _ _ _ _ _ q => ge_int q
theorem nomark (b : Expr) {op : CmpOp} (h : op ≠ .In := by decide) (h2 : op ≠ .NotIn := by decide) : behindInMarks op b = false := by
  have e1 : (op == CmpOp.In) = false := by cases op <;> first | rfl | exact absurd rfl h
  have e2 : (op == CmpOp.NotIn) = false := by cases op <;> first | rfl | exact absurd rfl h2
  cases b <;> simp [behindInMarks, e1, e2]
/-- a comparison as a value; hm: nomark b, or (for in, not in) by with_unfolding_all rfl -/
theorem pe_cmpR {op : CmpOp} {r : R2} (ho : OpR X (compareOp op) r) (ha : PE X a ta) (hb : PE X b tb) (hm : behindInMarks op b = false) : PE X (.Compare a [op] [b] pos) (tOp r ta tb) := by
  intro pins s σ H Q I h
  exact wpAny_Compare1 (binT ha hb I h fun v u s2 x y H2 I2 rx ry q => ho pins s2 σ H2 x y v u Q I2 rx ry q) hm
/-- a reading of a value as a test -/
noncomputable def tTest (t : TE) : TT := fun σ H Q => t σ H fun x H' => ∃ k, x = .bl k ∧ Q k H'
theorem pt_cmpR {op : CmpOp} {r : R2} (ho : OpR X (compareOp op) r) (ha : PE X a ta) (hb : PE X b tb) (hm : behindInMarks op b = false) : PT X (.Compare a [op] [b] pos) (tTest (tOp r ta tb)) := by
  intro pins s σ H Q I h
  refine wpAny_isTrue_Compare1 (thn (ha pins s σ H _ I h) fun v s1 ⟨x, H1, I1, r1, q1⟩ => thn (hb pins s1 σ H1 _ I1 q1) fun u s2 ⟨y, H2, I2, r2, q2⟩ =>
    thn (ho pins s2 σ H2 x y v u _ I2 r1 r2 q2) fun c s3 ⟨z, H3, I3, r3, k, e, q3⟩ => ?_) hm
  subst e
  cases r3
  exact wpAny_truthy_bool ⟨H3, I3, q3⟩
/-! ### truth -/
theorem line63 : (sizeLine : Nat) < 2 ^ 63 := by rw [sizeLine_eq]; decide
/-! ### strs and bytes -/
/-! ### scalar builtins, by CallR -/
theorem vals1 {x : V} {us : List Value} (r : Vals [x] us) : ∃ u, us = [u] ∧ RelV x u := by
  cases r with
  | cons r1 r2 => cases r2; exact ⟨_, rfl, r1⟩
theorem vals2 {x y : V} {us : List Value} (r : Vals [x, y] us) : ∃ u w', us = [u, w'] ∧ RelV x u ∧ RelV y w' := by
  cases r with
  | cons r1 r2 =>
    cases r2 with
    | cons r3 r4 => cases r4; exact ⟨_, _, rfl, r1, r3⟩
theorem call_min2 (hc : X.calm = true) : CallR X (.builtin "min") (fun xs H Q => ∃ i j, xs = [.int i, .int j] ∧ Q (.int (if j < i then j else i)) H) := by
  intro pins s σ H xs us Q I r h
  obtain ⟨i, j, rfl, q⟩ := h
  obtain ⟨u, w', rfl, ⟨t, rfl⟩, ⟨t', rfl⟩⟩ := vals2 r
  refine min_two_ints (I.ok.hd hc) fun h' tk k => ⟨_, H, I.kept k, ?_, q⟩
  by_cases hj : j < i
  · rw [if_pos hj, if_pos hj]; exact ⟨_, rfl⟩
  · rw [if_neg hj, if_neg hj]; exact ⟨_, rfl⟩
end
end L2

namespace L2
open PySem PySem.Spec PyProof.Rows

/-! ### an instance, its attributes a map -/
structure ObjM (h : Heap) (x dx C : Addr) (mA : Str → Option Value) : Prop where
  obj : h.get? x = some (PySem.W.instObj C dx)
  ns : h.Ns1 dx mA
  ne : dx ≠ x

theorem lookIn_ns {h : Heap} {dx : Addr} {mA : Str → Option Value} (n : h.Ns1 dx mA) : ∃ od, h.get? dx = some od ∧ ∀ name, PySem.W.lookIn name od = some (mA name) := by
  obtain ⟨o, es, ep, ho, hd, hk, _, hm⟩ := n
  refine ⟨o, ho, fun name => ?_⟩
  have e := hm name
  unfold nsFind findBy at e
  rw [← Array.find?_toList] at e
  unfold PySem.W.lookIn
  rw [hd]
  dsimp only
  split
  · rename_i y q
    rw [q] at e
    exact congrArg some e
  · rename_i q
    rw [q] at e
    have a : es.toList.any (·.refKey) = false := by
      rw [List.any_eq_false]
      intro y hy
      obtain ⟨z, t, hkey⟩ := hk y (Array.mem_toList_iff.mp hy)
      simp [DictEntry.refKey, hkey]
    have a' : ¬ es.toList.any (·.refKey) = true := by rw [a]; exact Bool.false_ne_true
    rw [if_neg a']
    exact congrArg some e

theorem ObjM.look {h : Heap} {x dx C : Addr} {mA : Str → Option Value} (I : ObjM h x dx C mA) : ∃ od, PySem.W.InstAt h x (PySem.W.instObj C dx) C (some od) ∧ ∀ name, PySem.W.lookIn name od = some (mA name) :=
  let ⟨od, ho, hl⟩ := lookIn_ns I.ns
  ⟨od, ⟨I.obj, rfl, rfl, ho⟩, hl⟩

section
variable {prog : Program} {w : World} {A : Around} {E : Value → Shared → Prop} {s : Shared} {K : PySem.W.Frag} {x dx C f : Addr} {mA : Str → Option Value} {name : Str} {v : Value}

theorem get_meth {pl : Sem Bool} {Q : Value × List Value → Shared → Prop} (X : K.In s.heap) (I : ObjM s.heap x dx C mA) (hg : PySem.W.plainGet K C name = true)
    (hf : PySem.W.findIn K (.ref C) name = some (some (.ref f))) (ht : PySem.W.isFn K (.ref f) = true) (hv : mA name = none) (h : Q (.ref f, [.ref x]) s) :
    wpAny (model prog w) A (getMethod (.ref x) name pl) Q E s := by
  obtain ⟨od, J, hl⟩ := I.look
  exact PySem.W.method_fn X J (PySem.W.plainGet_of hg).1 (PySem.W.plainGet_of hg).2 hf (beq_iff_eq.mp ht) (by show (PySem.W.lookIn name od).map (·.isSome) = some false; rw [hl, hv]; rfl) h

theorem set_map {ns : List Str} {Q : Unit → Shared → Prop} (X : K.In s.heap) (I : ObjM s.heap x dx C mA)
    (hs : PySem.W.findIn K (.ref C) "__setattr__" = some (some (.builtin "object.__setattr__"))) (hp : PySem.W.plainOver K C = true) (ht : PySem.W.takerIn K C name = some none) (hh : PySem.W.hasDictIn K C = true)
    (hw : PySem.Within mA ns) (hsz : ns.length ≤ sizeLine)
    (h : ∀ h', ObjM h' x dx C (fun y => if y = name then some v else mA y) → Heap.SameBut dx s.heap h' → Q () { s with heap := h', toks := s.toks + 2 }) :
    wpAny (model prog w) A (setAttr (.ref x) name v) Q E s := by
  obtain ⟨od, J, hl⟩ := I.look
  refine PySem.W.set_plain X J hs (PySem.W.osa_open (s := { s with toks := s.toks + 1 }) (r := none) X J hp ht fun b => ?_)
  obtain ⟨cd, hc, hd'⟩ := PySem.W.any_some hh
  have hx : s.heap.get? x = some ⟨.ref C, some dx, .plain, #[]⟩ := I.obj
  refine wpAny_bind (wpAny_pure (wpAny_bind (wpAny_bind (wpAny_loadPart hx (wpAny_bind (PySem.W.Looks.here (s := { s with toks := s.toks + 1 }) (PySem.W.looks_clsIn X hc) ?_))))))
  rw [hd']
  refine wpAny_pure (a := some dx) (wpAny_bind (wpAny_pure (wpAny_bind ?_)))
  refine wpAny_nsSet1 (s := { s with toks := s.toks + 1 }) I.ns fun h' hn2 hs2 => ?_
  obtain ⟨oD, esD, epD, hoD, hdD, hcD⟩ := hn2.count (PySem.Within.cons name v hw)
  refine wpAny_bind (wpAny_lookBehind hoD (by rw [hdD]; exact pastItsLine_dict (Nat.le_trans hcD (by rw [List.length_cons]; omega))) ?_)
  exact wpAny_pure (h _ ⟨(hs2.2 _ (Ne.symm I.ne)).trans I.obj, hn2, I.ne⟩ hs2)

/-- C(..): the dict at the heap's end, the instance behind it; then its __init__ -/
theorem make_map {R : Result → Shared → Prop} {vs : List Value} {kw : List (Str × Value)} (X : K.In s.heap) (hm : PySem.W.makesIn K C = true)
    (hi : PySem.W.findIn K (.ref C) "__init__" = some (some (.ref f))) (hf : PySem.W.typeIn K (.ref f) = some (.type "function"))
    (h : codeAny (model prog w) (A.under (.builtin "type.__call__" ⟨.ref C :: vs, kw⟩)) (.call (.ref f) ⟨.ref (s.heap.objs.size + 1) :: vs, kw⟩) (PySem.W.InitBack (s.heap.objs.size + 1) R)
      { s with heap := (s.heap.push PySem.W.emptyDict).push (PySem.W.instObj C s.heap.objs.size) }) :
    codeAny (model prog w) A (.call (.ref C) ⟨vs, kw⟩) R s := by
  obtain ⟨hh, g, d, t, os⟩ := s
  exact PySem.W.make_core (PySem.W.makes_of X hm) (PySem.W.looks_findIn X hi) (fun self => PySem.W.bind_fn X self hf) (.inl rfl) h
end

/-! ### the attributes as a list of pairs -/
noncomputable def putF (f : Str) (v : V) : List (Str × V) → List (Str × V)
  | [] => [(f, v)]
  | (g, x) :: r => if g = f then (g, v) :: r else (g, x) :: putF f v r
theorem lookup_putF (f g : Str) (v : V) : ∀ fs : List (Str × V), (putF f v fs).lookup g = if g = f then some v else fs.lookup g
  | [] => by
    show List.lookup g [(f, v)] = _
    by_cases h : g = f
    · have hb : (g == f) = true := beq_iff_eq.mpr h
      simp only [List.lookup, hb, if_pos h]
    · have hb : (g == f) = false := beq_eq_false_iff_ne.mpr h
      simp only [List.lookup, hb, if_neg h]
  | (k, x) :: r => by
    have ih := lookup_putF f g v r
    rw [show putF f v ((k, x) :: r) = (if k = f then (k, v) :: r else (k, x) :: putF f v r) from rfl]
    by_cases hk : k = f
    · rw [if_pos hk]
      by_cases h : g = k
      · have hb : (g == k) = true := beq_iff_eq.mpr h
        simp only [List.lookup, hb, if_pos (h.trans hk)]
      · have hb : (g == k) = false := beq_eq_false_iff_ne.mpr h
        simp only [List.lookup, hb, if_neg (fun e : g = f => h (e.trans hk.symm))]
    · rw [if_neg hk]
      by_cases h : g = k
      · have hb : (g == k) = true := beq_iff_eq.mpr h
        simp only [List.lookup, hb, if_neg (fun e : g = f => hk (h.symm.trans e))]
      · have hb : (g == k) = false := beq_eq_false_iff_ne.mpr h
        simp only [List.lookup, hb]
        exact ih
theorem keys_putF (f : Str) (v : V) : ∀ fs : List (Str × V), f ∈ (putF f v fs).map (·.1) ∧ ∀ g, g ∈ fs.map (·.1) → g ∈ (putF f v fs).map (·.1)
  | [] => ⟨by simp [putF], fun g h => by simp at h⟩
  | (k, x) :: r => by
    obtain ⟨i1, i2⟩ := keys_putF f v r
    rw [show putF f v ((k, x) :: r) = (if k = f then (k, v) :: r else (k, x) :: putF f v r) from rfl]
    by_cases hk : k = f
    · rw [if_pos hk]
      subst hk
      exact ⟨by simp, fun g h => by simpa using h⟩
    · rw [if_neg hk]
      refine ⟨?_, fun g h => ?_⟩
      · rw [List.map_cons]
        exact List.mem_cons_of_mem _ i1
      · rw [List.map_cons] at h ⊢
        rcases List.mem_cons.mp h with e | e
        · exact List.mem_cons.mpr (.inl e)
        · exact List.mem_cons_of_mem _ (i2 g e)
theorem length_putF (f : Str) (v : V) : ∀ fs : List (Str × V), (putF f v fs).length ≤ fs.length + 1
  | [] => by simp [putF]
  | (k, x) :: r => by
    have ih := length_putF f v r
    rw [show putF f v ((k, x) :: r) = (if k = f then (k, v) :: r else (k, x) :: putF f v r) from rfl]
    by_cases hk : k = f
    · rw [if_pos hk, List.length_cons, List.length_cons]; omega
    · rw [if_neg hk, List.length_cons, List.length_cons]; omega

theorem RelO.none_of {o : Option Value} (r : RelO none o) : o = none := by
  cases o with
  | none => rfl
  | some u => exact (show False from r).elim
section
variable {P : Program} {w : World} {H H' : Hp} {h h' : Heap} {a C dx : Addr} {fs fs' : List (Str × V)}
theorem ins_get (hok : HOk P w H h) (e : H a = some (.ins C dx fs)) : ∃ mA, ObjM h a dx C mA ∧ (∀ f, RelO (fs.lookup f) (mA f)) ∧ PySem.Within mA (fs.map (·.1)) ∧ fs.length ≤ 1000 ∧ H dx = some (.own a) := by
  obtain ⟨d, z, ne, ob, mA, n, r, q⟩ := (show ObjOk P w H h a (.ins C dx fs) from hok a _ e)
  exact ⟨mA, ⟨ob, n, ne⟩, r, q, z, d⟩
end

/-! ### what of the text a class must have -/
structure Cls (K : PySem.W.Frag) (C : Addr) : Prop where
  pg : PySem.W.plainGet K C Str.empty = true
  hd : PySem.W.hasDictIn K C = true
  po : PySem.W.plainOver K C = true
  sa : PySem.W.findIn K (.ref C) "__setattr__" = some (some (.builtin "object.__setattr__"))
theorem Cls.get {K : PySem.W.Frag} {C : Addr} (c : Cls K C) (f : Str) : PySem.W.plainGet K C f = true := c.pg
/-- no class of it has the name -/
noncomputable def NoAttr (K : PySem.W.Frag) (C : Addr) (f : Str) : Prop := PySem.W.findIn K (.ref C) f = some none
theorem NoAttr.taker {K : PySem.W.Frag} {C : Addr} {f : Str} (n : NoAttr K C f) : PySem.W.takerIn K C f = some none := by
  unfold PySem.W.takerIn
  rw [show PySem.W.findIn K (.ref C) f = some none from n]
  rfl
/-- a method: a plain def of the class or of one above it -/
structure Meth (K : PySem.W.Frag) (C : Addr) (m : Str) (f : Addr) : Prop where
  at_ : PySem.W.findIn K (.ref C) m = some (some (.ref f))
  fn : PySem.W.isFn K (.ref f) = true
  kp : PySem.W.keepIn K (.ref f) = true

section
variable {X : Cx} {pins : List (Addr × Obj)} {σ : St} {H : Hp} {s : Shared} {a C dx : Addr} {fs : List (Str × V)} {f : Str} {v : V} {A : Around} {E : Value → Shared → Prop}

theorem getmeth_ok {m : Str} {g : Addr} {pl : Sem Bool} {Q : Value × List Value → Shared → Prop} (I : Inv X pins σ H s) (e : H a = some (.ins C dx fs)) (c : Cls X.K C) (k : Meth X.K C m g) (l : fs.lookup m = none)
    (h : Q (.ref g, [.ref a]) s) : wpAny (model X.prog X.w) A (getMethod (.ref a) m pl) Q E s := by
  obtain ⟨mA, O, r, _, _, _⟩ := ins_get I.hok e
  have hn : mA m = none := RelO.none_of (by rw [← l]; exact r m)
  exact get_meth I.kIn O (c.get m) k.at_ k.fn hn h

theorem setattr_ok {y : V} {u : Value} {Q : Unit → Shared → Prop} (I : Inv X pins σ H s) (e : H a = some (.ins C dx fs)) (c : Cls X.K C) (n : NoAttr X.K C f) (hl : fs.length < 1000) (ry : RelV y u)
    (h : ∀ s', Inv X pins σ (upd H a (.ins C dx (putF f y fs))) s' → Q () s') : wpAny (model X.prog X.w) A (setAttr (.ref a) f u) Q E s := by
  obtain ⟨mA, O, r, wi, _, ho⟩ := ins_get I.hok e
  have hz : (fs.map (·.1)).length ≤ sizeLine := by rw [List.length_map, sizeLine_eq]; omega
  refine set_map I.kIn O c.sa c.po n.taker c.hd wi hz fun h' O' sb => h _ ?_
  have hd : ∃ o, h'.get? dx = some o := let ⟨o, _, _, e', _⟩ := O'.ns; ⟨o, e'⟩
  refine I.write (x := a) (e := dx) (by rw [e]; exact True.intro) (.inr ho) (fun b q hb z => (sb.2 b hb).trans z) hd ?_
  refine ⟨by rw [upd_ne O.ne]; exact ho, ?_, O.ne, O'.obj, _, O'.ns, fun g => ?_, fun g hg => ?_⟩
  · have := length_putF f y fs; omega
  · show RelO ((putF f y fs).lookup g) (if g = f then some u else mA g)
    rw [lookup_putF]
    by_cases q : g = f
    · rw [if_pos q, if_pos q]; exact ry
    · rw [if_neg q, if_neg q]; exact r g
  · by_cases q : g = f
    · rw [q]; exact (keys_putF f y fs).1
    · refine (keys_putF f y fs).2 g (wi g fun z => hg ?_)
      show (if g = f then some u else mA g) = none
      rw [if_neg q]; exact z

/-- a new instance, tracked, without attributes -/
theorem Inv.made (I : Inv X pins σ H s) : Inv X pins σ (upd (upd H s.heap.objs.size (.own (s.heap.objs.size + 1))) (s.heap.objs.size + 1) (.ins C s.heap.objs.size []))
    { s with heap := (s.heap.push PySem.W.emptyDict).push (PySem.W.instObj C s.heap.objs.size) } := by
  have e1 : (s.heap.push PySem.W.emptyDict).get? s.heap.objs.size = some PySem.W.emptyDict := Heap.get?_push_size s.heap rfl
  have e2 : ((s.heap.push PySem.W.emptyDict).push (PySem.W.instObj C s.heap.objs.size)).get? (s.heap.objs.size + 1) = some (PySem.W.instObj C s.heap.objs.size) := by
    have := Heap.get?_push_size (s.heap.push PySem.W.emptyDict) (o := PySem.W.instObj C s.heap.objs.size) rfl
    rwa [Heap.size_push] at this
  have e3 : (s.heap.push PySem.W.emptyDict).Ns s.heap.objs.size (fun _ => none) := ⟨PySem.W.emptyDict, #[], _, e1, rfl, (fun e he => absurd he (by simp)), fun _ => rfl⟩
  have I1 := I.laid (a := s.heap.objs.size) (o := .own (s.heap.objs.size + 1)) (h' := s.heap.push PySem.W.emptyDict) (t' := s.toks) (fun b u q => Heap.get?_push_of_some _ q) (Nat.le_refl _) ⟨_, e1⟩
  refine I1.laid (a := s.heap.objs.size + 1) (o := .ins C s.heap.objs.size []) (t' := s.toks) (fun b u q => Heap.get?_push_of_some _ q) (Nat.le_of_eq (Heap.size_push _ _)) ?_
  have ne : s.heap.objs.size ≠ s.heap.objs.size + 1 := Nat.ne_of_lt (Nat.lt_succ_self _)
  refine ⟨by rw [upd_ne ne, upd_same], Nat.zero_le _, ne, e2, fun _ => none, (Heap.Ns1.of_empty e3).at fun o q => Heap.get?_push_of_some _ q, fun _ => True.intro, fun y hy => absurd rfl hy⟩

end

/-! ### readings and rules -/
/-- e.f = value -/
noncomputable def sFld (K : PySem.W.Frag) (ta tv : TE) (f : Str) : TS := fun D σ H => tv σ H fun y H1 => ta σ H1 fun x H2 => ∃ a C dx fs, x = .ref a ∧ H2 a = some (.ins C dx fs) ∧ Cls K C ∧ NoAttr K C f ∧ fs.length < 1000 ∧
  D.nx σ (upd H2 a (.ins C dx (putF f y fs)))
section
variable {X : Cx} {o e value : Expr} {f : Str} {pos pos' tpos : Pos} {ta tv : TE}
theorem ps_fld (ha : PE X o ta) (hv : PE X value tv) (hs : swapsWith value (some (.Attribute o f pos')) pos.line X.env = pure false) : PS X (.Assign [.Attribute o f pos'] value pos) (sFld X.K ta tv f) := by
  intro pins s σ H D I h
  refine plainObj_wpAny_Assign_Attribute (thn (hv pins s σ H _ I h) fun u s1 ⟨y, H1, I1, ry, q⟩ => thn (ha pins s1 σ H1 _ I1 q) fun ov s2 ⟨x, H2, I2, rx, a, C, dx, fs, ex, ea, c, n, l, q2⟩ => ?_) hs
  subst ex
  obtain rfl : ov = Value.ref a := rx
  exact setattr_ok I2 ea c n l ry fun s3 I3 => ⟨σ, _, I3, q2⟩
/-- what is between an instance and its method: the tree of a method call -/
theorem methcall_of {pl : Sem Bool} {m : Str} {apos : Pos} {args : List Expr} {pins : List (Addr × Obj)} {s : Shared} {σ : St} {H : Hp} {Q : Value → Shared → Prop} {te : TE} (he : PE X e te) (I : Inv X pins σ H s)
    (h : te σ H fun x H1 => ∃ a C dx fs g, x = .ref a ∧ H1 a = some (.ins C dx fs) ∧ Cls X.K C ∧ Meth X.K C m g ∧ fs.lookup m = none ∧
      ∀ s1, Inv X pins σ H1 s1 → wpAny (model X.prog X.w) X.A (callWith pos (.ref g) [.ref a] (backTo pos (starEach args X.env)) (backToKw pos (keywordEach [] X.env))) Q X.xe s1)
    (ht : eval (.Call (.Attribute e m apos) args [] pos) X.env = (do
      let ov ← eval e X.env
      standAt apos.atName
      let (f, first) ← holding [ov] (getMethod ov m pl)
      callWith pos f first (backTo pos (starEach args X.env)) (backToKw pos (keywordEach [] X.env)))) :
    wpAny (model X.prog X.w) X.A (eval (.Call (.Attribute e m apos) args [] pos) X.env) Q X.xe s := by
  refine PySem.W.methodCall_KW (pl := pl) (thn (he pins s σ H _ I h) fun u s1 ⟨x, H1, I1, rx, a, C, dx, fs, g, ex, ea, c, k, l, q⟩ => ?_) ht
  subst ex
  obtain rfl : u = Value.ref a := rx
  exact getmeth_ok I1 ea c k l (q s1 I1)
end

/-! ### isinstance -/
section
variable {X : Cx} {pins : List (Addr × Obj)} {σ : St} {H : Hp} {s : Shared} {A : Around} {E : Value → Shared → Prop} {Q : Value → Shared → Prop} {c : Value} {b : Bool}
/-- the type of a value, as the fragment's deciders take it; for an instance its class -/
inductive TyOf (K : PySem.W.Frag) (H : Hp) : V → Value → Prop where
  | non : TyOf K H .non (.type "NoneType")
  | bl (x : Bool) : TyOf K H (.bl x) (.type "bool")
  | int (i : Int) : TyOf K H (.int i) (.type "int")
  | str (x : Str) : TyOf K H (.str x) (.type "str")
  | flt (x : UInt64) : TyOf K H (.flt x) (.type "float")
  | lst {a : Addr} {xs : List V} (e : H a = some (.lst xs)) : TyOf K H (.ref a) (.type "list")
  | frz {a : Addr} {o : Obj} {xs : List V} (e : H a = some (.frz o (.lst xs))) : TyOf K H (.ref a) (.type "list")
  | tup {a : Addr} {xs : List V} (e : H a = some (.tup xs)) : TyOf K H (.ref a) (.type "tuple")
  | dK {a : Addr} {kvs : List (Key × V)} (e : H a = some (.dK kvs)) : TyOf K H (.ref a) (.type "dict")
  | dT {a : Addr} {kvs : List (List Key × V)} (e : H a = some (.dT kvs)) : TyOf K H (.ref a) (.type "dict")
  | ins {a C dx : Addr} {fs : List (Str × V)} (e : H a = some (.ins C dx fs)) (cl : Cls K C) (ha : PySem.W.findIn K (.ref C) "__class__" = some (some (.builtin "object.__class__")))
      (hn : PySem.W.specialIn K (.builtin "object.__class__") "__get__" = some (some (.builtin "getset_descriptor.__get__"))) (htk : PySem.W.takesIn K (.builtin "object.__class__") = some true)
      (hm : PySem.W.mroIn K C (.type "object") = some true) : TyOf K H (.ref a) (.ref C)
/-- isinstance(x, c) for one class c, a built-in or an own one: kitOne's answer -/
theorem isinst_ok {x : V} {u t : Value} (I : Inv X pins σ H s) (rx : RelV x u) (ty : TyOf X.K H x t) (e : PySem.W.kitOne X.K t c = some b) (h : ∀ tk, Q (.bool b) { s with toks := tk }) :
    wpAny (model X.prog X.w) A (call (.builtin "isinstance") [u, c]) Q E s := by
  cases ty with
  | non => cases (show u = Value.none from rx); exact PySem.W.kia_one PySem.W.kitx_none I.kIn True.intro e (fun z => nomatch z) h
  | bl y => cases (show u = Value.bool y from rx); exact PySem.W.kia_one PySem.W.kitx_bool I.kIn True.intro e (fun z => nomatch z) h
  | int i => obtain ⟨t, q⟩ := (show ∃ t, u = Value.int i t from rx); cases q; exact PySem.W.kia_one PySem.W.kitx_int I.kIn True.intro e (fun z => nomatch z) h
  | str y => obtain ⟨t, q⟩ := (show ∃ t, u = Value.str y t from rx); cases q; exact PySem.W.kia_one PySem.W.kitx_str I.kIn True.intro e (fun z => nomatch z) h
  | flt y => obtain ⟨t, q⟩ := (show ∃ t, u = Value.float y t from rx); cases q; exact PySem.W.kia_one PySem.W.kitx_float I.kIn True.intro e (fun z => nomatch z) h
  | @lst a xs ea =>
    cases (show u = Value.ref a from rx)
    obtain ⟨_, _, n, _, h1⟩ := (show ObjOk X.prog X.w H s.heap a (.lst xs) from I.hok a _ ea)
    exact PySem.W.kia_one PySem.W.kitx_list I.kIn ⟨_, h1, rfl⟩ e (fun z => nomatch z) h
  | @frz a ob xs ea =>
    cases (show u = Value.ref a from rx)
    obtain ⟨_, _, _, n, _, h1⟩ := (show ObjOk X.prog X.w H s.heap a (.frz ob (.lst xs)) from I.hok a _ ea)
    exact PySem.W.kia_one PySem.W.kitx_list I.kIn ⟨_, h1, rfl⟩ e (fun z => nomatch z) h
  | @tup a xs ea =>
    cases (show u = Value.ref a from rx)
    obtain ⟨_, _, _, p⟩ := (show ObjOk X.prog X.w H s.heap a (.tup xs) from I.hok a _ ea)
    obtain ⟨o, h1, h2, _⟩ := p
    exact PySem.W.kia_one PySem.W.kitx_tuple I.kIn ⟨o, h1, h2⟩ e (fun z => nomatch z) h
  | @dK a kvs ea =>
    cases (show u = Value.ref a from rx)
    obtain ⟨_, _, vs, _, p⟩ := (show ObjOk X.prog X.w H s.heap a (.dK kvs) from I.hok a _ ea)
    obtain ⟨o, es, ep, h1, h2, _⟩ := p
    exact PySem.W.kia_one PySem.W.kitx_dict I.kIn ⟨o, h1, h2.1⟩ e (fun z => nomatch z) h
  | @dT a kvs ea =>
    cases (show u = Value.ref a from rx)
    obtain ⟨_, _, xs, _, o, es, ep, h1, h2, _⟩ := (show ObjOk X.prog X.w H s.heap a (.dT kvs) from I.hok a _ ea)
    exact PySem.W.kia_one PySem.W.kitx_dict I.kIn ⟨o, h1, h2.1⟩ e (fun z => nomatch z) h
  | @ins a C dx fs ea cl ha hn htk hm =>
    cases (show u = Value.ref a from rx)
    obtain ⟨mA, O, _⟩ := ins_get I.hok ea
    obtain ⟨od, J, _⟩ := O.look
    exact PySem.W.kia_one (PySem.W.kitx_own (cl.get _) cl.hd ha hn htk hm) I.kIn J e (fun z => nomatch z) h
end
end L2

namespace L2
open PySem PySem.Spec PyProof.Rows

/-! ### room -/
structure Room (k : Nat) (A : Around) : Prop where
  hd : A.handled = none
  dp : A.depth + 3 * k + 5 < recursionLimit
  un : A.units + 16 * k + 200 < cLine
theorem Room.mono {j k : Nat} {A : Around} (r : Room k A) (h : j ≤ k) : Room j A := ⟨r.hd, by have := r.dp; omega, by have := r.un; omega⟩
theorem Room.deeper {k : Nat} {A : Around} (r : Room (k + 1) A) (env : Env) : Room k (A.deeper env) :=
  ⟨r.hd, by have := r.dp; show A.depth + 1 + 3 * k + 5 < _; omega, by have := r.un; show A.units + 3 + 16 * k + 200 < _; omega⟩
theorem make_depth {A : Around} {C : Addr} {us : List Value} {kw : List (Str × Value)} : (A.under (.builtin "type.__call__" ⟨.ref C :: us, kw⟩)).depth = A.depth + 1 := by
  first | rfl | simp [Around.under, Code.weight, Code.isCreation, Code.isGuard, Code.isCaller, Code.frames, Code.isFrame, guardIds]
theorem make_units {A : Around} {C : Addr} {us : List Value} {kw : List (Str × Value)} : (A.under (.builtin "type.__call__" ⟨.ref C :: us, kw⟩)).units = A.units + 1 := by
  first | rfl | simp [Around.under, Code.cUnits, Code.frames, Code.isFrame]
theorem Room.make {k : Nat} {A : Around} (r : Room (k + 1) A) (C : Addr) (us : List Value) (kw : List (Str × Value)) : Room k (A.under (.builtin "type.__call__" ⟨.ref C :: us, kw⟩)) :=
  ⟨r.hd, by have := r.dp; rw [make_depth]; omega, by have := r.un; rw [make_units]; omega⟩
theorem Room.depth {k : Nat} {A : Around} (r : Room k A) : A.depth < recursionLimit := by have := r.dp; omega
/-! ### argument lists and displays -/
noncomputable def tNil : TA := fun _ H Q => Q [] H
noncomputable def tCons (ta : TE) (tr : TA) : TA := fun σ H Q => ta σ H fun x H1 => tr σ H1 fun xs H2 => Q (x :: xs) H2
section
variable {X : Cx} {e : Expr} {es : List Expr} {te : TE} {t : TA} {pos : Pos}
theorem pa_nil : PA X [] tNil := fun _ _ _ _ H Q I h => Calls.spliced_nil ⟨[], H, I, .nil, h⟩
theorem pa_cons (ha : PE X e te) (hr : PA X es t) (hs : starEach (e :: es) X.env = (false, eval e X.env) :: starEach es X.env := by rfl) : PA X (e :: es) (tCons te t) := by
  intro pos pins s σ H Q I h
  rw [hs]
  show wpAny _ _ (spliced ((false, eval e X.env) :: backTo pos (starEach es X.env))) _ _ s
  refine Calls.spliced_cons (thn (ha pins s σ H _ I h) fun u s1 ⟨x, H1, I1, r1, q1⟩ => ?_)
  exact thn (hr pos pins s1 σ H1 _ I1 q1) fun us s2 ⟨xs, H2, I2, r2, q2⟩ => ⟨x :: xs, H2, I2, .cons r1 r2, q2⟩

/-- a tuple, a list of written items -/
noncomputable def tTup (t : TA) : TE := fun σ H Q => t σ H fun xs H1 => xs.length ≤ sizeLine ∧ ∀ p, H1 p = none → Q (.ref p) (upd H1 p (.tup xs))
noncomputable def tLst (t : TA) : TE := fun σ H Q => t σ H fun xs H1 => xs.length ≤ sizeLine ∧ ∀ p, H1 p = none → Q (.ref p) (upd H1 p (.lst xs))
theorem pe_tup {x1} (h : PA X es t) : PE X (.Tuple es x1 pos) (tTup t) := by
  intro pins s σ H Q I hq
  refine wpAny_Tuple_spliced (thn (h pos pins s σ H _ I hq) fun us s1 ⟨xs, H1, I1, r, z, q⟩ => ⟨by rw [← r.length]; exact z, ?_⟩)
  have hf : H1 s1.heap.objs.size = none := I1.hok.fresh (Nat.le_refl _)
  refine ⟨.ref s1.heap.objs.size, upd H1 s1.heap.objs.size (.tup xs), I1.laid (t' := s1.toks) (fun b u e => Heap.get?_push_of_some _ e) (Nat.le_refl _) ?_, rfl, q _ hf⟩
  exact ⟨z, us, r, ⟨_, Heap.get?_push_size _ rfl, rfl, _, rfl⟩⟩
theorem pe_lst (h : PA X es t) : PE X (.List es pos) (tLst t) := by
  intro pins s σ H Q I hq
  refine wpAny_List_spliced (thn (h pos pins s σ H _ I hq) fun us s1 ⟨xs, H1, I1, r, z, q⟩ => ⟨by rw [← r.length]; exact z, ?_⟩)
  have hf : H1 s1.heap.objs.size = none := I1.hok.fresh (Nat.le_refl _)
  refine ⟨.ref s1.heap.objs.size, upd H1 s1.heap.objs.size (.lst xs), I1.laid (t' := s1.toks) (fun b u e => Heap.get?_push_of_some _ e) (Nat.le_refl _) ?_, rfl, q _ hf⟩
  exact ⟨z, us, 0, r, Heap.get?_push_size _ rfl⟩
end

/-! ### what a def promises -/
/-- a def's promise: the bound arguments in the parameters' order, the heap, the wanted end, the wanted exception -/
noncomputable abbrev Sp := List V → Hp → VK → XK → Prop
/-- how an exception lies behind a call (file 08 gives it): the callers' frames, abstract heap and state ahead of the call, the wish, the exception, the state -/
noncomputable abbrev CXT := List Env → Hp → Shared → XK → Value → Shared → Prop

/-- the state at a call -/
structure Env0 (P : Program) (w : World) (K : PySem.W.Frag) (mg : Str → Option Value) (base : Heap) (A : Around) (outer : List Env) (s : Shared) (H : Hp) : Prop where
  frames : A.frames = some outer
  mod : Mod K mg base
  bs : ∀ b o, base.get? b = some o → s.heap.get? b = some o ∧ H b = none
  bsz : base.objs.size ≤ s.heap.objs.size
  funs : s.heap.FunFrames base outer
  frf : ∀ b ∈ frs outer, H b = none
  hok : HOk P w H s.heap
  bare : AllBare s.gens
/-- a call's end -/
noncomputable def CE (outer : List Env) (P : Program) (w : World) (H : Hp) (s : Shared) (Q : VK) (u : Value) (s' : Shared) : Prop :=
  ∃ v H', s'.os = s.os ∧ AllBare s'.gens ∧ Un (frs outer) [] H H' s.heap s'.heap ∧ HOk P w H' s'.heap ∧ RelV v u ∧ Q v H'
noncomputable def CR (CX : CXT) (outer : List Env) (P : Program) (w : World) (H : Hp) (s : Shared) (Q : VK) (E : XK) (r : Result) (s' : Shared) : Prop :=
  match r with
  | .ok (.ret u) => CE outer P w H s Q u s'
  | .ok _ => False
  | .error e => CX outer H s E e s'
structure FnOk (P : Program) (w : World) (K : PySem.W.Frag) (mg : Str → Option Value) (base : Heap) (CX : CXT) (k : Nat) (f : Addr) (fd : FuncData) (ps : List Str) (sp : Sp) : Prop where
  len : ∀ vs H Q E, sp vs H Q E → vs.length = ps.length
  run : ∀ (A : Around) (outer : List Env) (s : Shared) (H : Hp) (args : Args) (us : List Value) (vs : List V) (Q : VK) (E : XK), Room k A → Env0 P w K mg base A outer s H → BindsTo s fd args (ps.zip us) → Vals vs us → sp vs H Q E →
    codeAny (model P w) A (.call (.ref f) args) (CR CX outer P w H s Q E) s
theorem FnOk.mono {P : Program} {w : World} {K : PySem.W.Frag} {mg : Str → Option Value} {base : Heap} {CX : CXT} {j k : Nat} {f : Addr} {fd : FuncData} {ps : List Str} {sp : Sp} (F : FnOk P w K mg base CX j f fd ps sp) (h : j ≤ k) :
    FnOk P w K mg base CX k f fd ps sp := ⟨F.len, fun A outer s H args us vs Q E hr => F.run A outer s H args us vs Q E (hr.mono h)⟩
theorem Env0.make {P : Program} {w : World} {K : PySem.W.Frag} {mg : Str → Option Value} {base : Heap} {A : Around} {outer : List Env} {s : Shared} {H : Hp} (e : Env0 P w K mg base A outer s H) (C : Addr) (us : List Value) (kw : List (Str × Value)) :
    Env0 P w K mg base (A.under (.builtin "type.__call__" ⟨.ref C :: us, kw⟩)) outer s H := ⟨by first | exact e.frames | (simpa [Around.under, Code.envs, Code.isFrame, pushEnvs] using e.frames), e.mod, e.bs, e.bsz, e.funs, e.frf, e.hok, e.bare⟩
section
variable {X : Cx} {pins : List (Addr × Obj)} {σ : St} {H : Hp} {s s' : Shared}
/-- from a body: what a callee wants -/
theorem Inv.env0 (I : Inv X pins σ H s) : Env0 X.prog X.w X.K X.mg X.base X.A X.stack s H :=
  ⟨I.ok.frames, I.ok.mod, I.bs, Nat.le_trans I.ok.bsz I.sz, I.stack, I.stkFree, I.hok, I.bare⟩
/-- behind a call -/
theorem Inv.after {Q : VK} {u : Value} (I : Inv X pins σ H s) (h : CE X.stack X.prog X.w H s Q u s') : EP X pins σ Q u s' := by
  obtain ⟨v, H', os, bare, un, hok, r, q⟩ := h
  obtain ⟨hh, g, d, t, os'⟩ := s'
  obtain rfl : os' = s.os := os
  exact ⟨v, H', I.call (h' := hh) (g' := g) (d' := d) (t' := t) (ch := []) un hok bare (fun b z => absurd z (by simp)), r, q⟩
end

/-! ### calls -/
/-- f(..): the written arguments, then the defaults dvs; E: what is wanted of an exception -/
noncomputable def tCall (sp : Sp) (dvs : List V) (E : XK) (t : TA) : TE := fun σ H Q => t σ H fun vs H1 => sp (vs ++ dvs) H1 Q E
/-- o.m(..) of an instance of the class at C -/
noncomputable def tMeth (C : Addr) (m : Str) (sp : Sp) (dvs : List V) (E : XK) (ta : TE) (t : TA) : TE := fun σ H Q => ta σ H fun x H1 => ∃ a dx fs, x = .ref a ∧ H1 a = some (.ins C dx fs) ∧ fs.lookup m = none ∧
  t σ H1 fun vs H2 => sp (x :: (vs ++ dvs)) H2 Q E
/-- C(..): a new instance and its dict, then __init__ -/
noncomputable def tMake (C : Addr) (sp : Sp) (dvs : List V) (E : XK) (t : TA) : TE := fun σ H Q => t σ H fun vs H1 => ∀ x dx, H1 x = none → H1 dx = none → dx ≠ x →
  sp (.ref x :: (vs ++ dvs)) (upd (upd H1 dx (.own x)) x (.ins C dx [])) (fun v H2 => v = .non ∧ Q (.ref x) H2) E

/-- how the parameters are bound: us the positional arguments, kw the keywords' values by name, ds the defaults that fill up -/
noncomputable def Binds (K : PySem.W.Frag) (fd : FuncData) (ps : List Str) (ds : List Value) : Prop :=
  ∀ (s : Shared) (us : List Value), K.In s.heap → (us ++ ds).length = ps.length → BindsTo s fd ⟨us, []⟩ (ps.zip (us ++ ds))
/-- every parameter is given -/
theorem Binds.all {K : PySem.W.Frag} {fd : FuncData} {ps : List Str} (h : ∀ us : List Value, us.length = ps.length → bindArgs fd ⟨us, []⟩ = pure (ps.zip us)) : Binds K fd ps [] := fun s us _ hl => by
  rw [List.append_nil] at hl ⊢
  exact .of_eq (h us hl)

/-- an exception of a callee reaches what this body wants of exceptions -/
noncomputable def Passes (CX : CXT) (X : Cx) (E : XK) : Prop := ∀ (pins : List (Addr × Obj)) (σ : St) (H : Hp) (s : Shared) (e : Value) (s' : Shared), Inv X pins σ H s → CX X.stack H s E e s' → X.xe e s'

section
variable {X : Cx} {CX : CXT} {k : Nat} {f C : Addr} {fd : FuncData} {ps : List Str} {sp : Sp} {dvs : List V} {ds : List Value} {E : XK} {x m : Str} {p pos apos : Pos} {e o : Expr} {es : List Expr} {ta : TE} {t : TA}

/-- the callee runs -/
theorem run_fn {pins : List (Addr × Obj)} {σ : St} {H : Hp} {s : Shared} {Q : VK} {us : List Value} {vs : List V} (F : FnOk X.prog X.w X.K X.mg X.base CX k f fd ps sp) (hr : Room k X.A) (hb : Binds X.K fd ps ds) (hd : Vals dvs ds) (hx : Passes CX X E)
    (I : Inv X pins σ H s) (r : Vals vs us) (h : sp (vs ++ dvs) H Q E) : wpAny (model X.prog X.w) X.A (call (.ref f) us) (EP X pins σ Q) X.xe s := by
  have r2 : Vals (vs ++ dvs) (us ++ ds) := r.append hd
  have hl : (us ++ ds).length = ps.length := by rw [← r2.length]; exact F.len _ _ _ _ h
  refine wpAny_call (codeAny_mono (F.run X.A X.stack s H ⟨us, []⟩ (us ++ ds) (vs ++ dvs) Q E hr I.env0 (hb s us I.kIn hl) r2 h) fun r s' hq => ?_)
  cases r with
  | error e => exact hx pins σ H s e s' I hq
  | ok fl =>
    cases fl with
    | ret u => exact I.after hq
    | next => exact False.elim hq
    | brk => exact False.elim hq
    | cont => exact False.elim hq

theorem pe_call (F : FnOk X.prog X.w X.K X.mg X.base CX k f fd ps sp) (hr : Room k X.A) (hg : Gl X x) (hm : X.mg x = some (.ref f)) (hk : PySem.W.keepIn X.K (.ref f) = true) (hb : Binds X.K fd ps ds) (hd : Vals dvs ds) (hx : Passes CX X E)
    (ha : PA X (e :: es) t) (hdb : (x == ("__debug__" : Str)) = false := by decide) (he : starEach (e :: es) X.env = (false, eval e X.env) :: starEach es X.env := by rfl) (hpl : (backTo pos (starEach es X.env)).any (·.1) = false := by rfl) :
    PE X (.Call (.Name x p) (e :: es) [] pos) (tCall sp dvs E t) := by
  intro pins s σ H Q I h
  refine wpAny_Call_Name_kw (ld_glob I hg hm ?_ hdb)
  refine PySem.W.callWith_K (h₀ := X.base) I.ok.mod.kin hk (thn (ha pos pins s σ H _ I h) fun us s1 ⟨vs, H1, I1, r, q⟩ => ⟨I1.kIn, ?_⟩) he hpl
  exact run_fn F hr hb hd hx I1 r q
/-- o.m(e, ..) -/
theorem pe_meth {pl : Sem Bool} (he : PE X o ta) (c : Cls X.K C) (hm : Meth X.K C m f) (F : FnOk X.prog X.w X.K X.mg X.base CX k f fd ps sp) (hr : Room k X.A) (hb : Binds X.K fd ps ds) (hd : Vals dvs ds) (hx : Passes CX X E) (ha : PA X (e :: es) t)
    (hst : starEach (e :: es) X.env = (false, eval e X.env) :: starEach es X.env := by rfl) (hpl : (backTo pos (starEach es X.env)).any (·.1) = false := by rfl)
    (ht : eval (.Call (.Attribute o m apos) (e :: es) [] pos) X.env = (do
      let ov ← eval o X.env
      standAt apos.atName
      let (f, first) ← holding [ov] (getMethod ov m pl)
      callWith pos f first (backTo pos (starEach (e :: es) X.env)) (backToKw pos (keywordEach [] X.env))) := by rfl) :
    PE X (.Call (.Attribute o m apos) (e :: es) [] pos) (tMeth C m sp dvs E ta t) := by
  intro pins s σ H Q I h
  refine PySem.W.methodCall_KW (pl := pl) (thn (he pins s σ H _ I h) fun u s1 ⟨x, H1, I1, rx, a, dx, fs, ex, ea, l, q⟩ => ?_) ht
  subst ex
  obtain rfl : u = Value.ref a := rx
  refine getmeth_ok I1 ea c hm l ?_
  refine PySem.W.callWith_K (first := [.ref a]) (h₀ := X.base) I.ok.mod.kin hm.kp (thn (ha pos pins s1 σ H1 _ I1 q) fun us s2 ⟨vs, H2, I2, r, q2⟩ => ⟨I2.kIn, ?_⟩) hst hpl
  exact run_fn (us := .ref a :: us) (vs := .ref a :: vs) F hr hb hd hx I2 (.cons rfl r) q2
/-- o.m() -/
theorem pe_meth0 {pl : Sem Bool} (he : PE X o ta) (c : Cls X.K C) (hm : Meth X.K C m f) (F : FnOk X.prog X.w X.K X.mg X.base CX k f fd ps sp) (hr : Room k X.A) (hb : Binds X.K fd ps ds) (hd : Vals dvs ds) (hx : Passes CX X E)
    (ht : eval (.Call (.Attribute o m apos) [] [] pos) X.env = (do
      let ov ← eval o X.env
      standAt apos.atName
      let (f, first) ← holding [ov] (getMethod ov m pl)
      callWith pos f first (backTo pos (starEach [] X.env)) (backToKw pos (keywordEach [] X.env))) := by rfl) :
    PE X (.Call (.Attribute o m apos) [] [] pos) (tMeth C m sp dvs E ta tNil) := by
  intro pins s σ H Q I h
  refine PySem.W.methodCall_KW (pl := pl) (thn (he pins s σ H _ I h) fun u s1 ⟨x, H1, I1, rx, a, dx, fs, ex, ea, l, q⟩ => ?_) ht
  subst ex
  obtain rfl : u = Value.ref a := rx
  refine getmeth_ok I1 ea c hm l ?_
  exact PySem.W.callWith_K0 (first := [.ref a]) I1.kIn hm.kp (run_fn (us := [.ref a]) (vs := [.ref a]) F hr hb hd hx I1 (.cons rfl .nil) q)

/-- what a class must have to be made -/
structure Mk (K : PySem.W.Frag) (C f : Addr) : Prop where
  makes : PySem.W.makesIn K C = true
  init : PySem.W.findIn K (.ref C) "__init__" = some (some (.ref f))
  fn : PySem.W.isFn K (.ref f) = true
  kp : PySem.W.keepIn K (.ref C) = true

theorem run_make {pins : List (Addr × Obj)} {σ : St} {H : Hp} {s : Shared} {Q : VK} {us : List Value} {vs : List V} (M : Mk X.K C f) (F : FnOk X.prog X.w X.K X.mg X.base CX k f fd ps sp) (hr : Room (k + 1) X.A) (hb : Binds X.K fd ps ds) (hd : Vals dvs ds)
    (hx : Passes CX X E) (I : Inv X pins σ H s) (r : Vals vs us)
    (h : ∀ x dx, H x = none → H dx = none → dx ≠ x → sp (.ref x :: (vs ++ dvs)) (upd (upd H dx (.own x)) x (.ins C dx [])) (fun v H2 => v = .non ∧ Q (.ref x) H2) E) :
    wpAny (model X.prog X.w) X.A (call (.ref C) us) (EP X pins σ Q) X.xe s := by
  have hq := h (s.heap.objs.size + 1) s.heap.objs.size (I.hok.fresh (Nat.le_succ _)) (I.hok.fresh (Nat.le_refl _)) (Nat.ne_of_lt (Nat.lt_succ_self _))
  have I2 := Inv.made (C := C) I
  have r2 : Vals (V.ref (s.heap.objs.size + 1) :: (vs ++ dvs)) (Value.ref (s.heap.objs.size + 1) :: (us ++ ds)) := .cons rfl (r.append hd)
  have hl : (Value.ref (s.heap.objs.size + 1) :: us ++ ds).length = ps.length := by
    have e := r2.length
    rw [F.len _ _ _ _ hq] at e
    exact e.symm
  refine wpAny_call (make_map (f := f) I.kIn M.makes M.init (beq_iff_eq.mp M.fn) (codeAny_mono (F.run _ X.stack _ _ ⟨Value.ref (s.heap.objs.size + 1) :: us, []⟩ (Value.ref (s.heap.objs.size + 1) :: (us ++ ds)) _ _ E (hr.make C us [])
    (I2.env0.make C us []) (hb _ (Value.ref (s.heap.objs.size + 1) :: us) I2.kIn hl) r2 hq) fun r s' hq' => ?_))
  cases r with
  | error e => exact hx pins σ _ _ e s' I2 hq'
  | ok fl =>
    cases fl with
    | ret u =>
      obtain ⟨v, H', I3, rv, ev, q3⟩ := I2.after hq'
      subst ev
      exact ⟨rv, ⟨V.ref (s.heap.objs.size + 1), H', I3, rfl, q3⟩⟩
    | next => exact False.elim hq'
    | brk => exact False.elim hq'
    | cont => exact False.elim hq'
theorem pe_make0 (M : Mk X.K C f) (F : FnOk X.prog X.w X.K X.mg X.base CX k f fd ps sp) (hr : Room (k + 1) X.A) (hg : Gl X x) (hm : X.mg x = some (.ref C)) (hb : Binds X.K fd ps ds) (hd : Vals dvs ds) (hx : Passes CX X E)
    (hdb : (x == ("__debug__" : Str)) = false := by decide) : PE X (.Call (.Name x p) [] [] pos) (tMake C sp dvs E tNil) := by
  intro pins s σ H Q I h
  refine wpAny_Call_Name_kw (ld_glob I hg hm ?_ hdb)
  exact PySem.W.callWith_K0 I.kIn M.kp (run_make (us := []) M F hr hb hd hx I .nil h)
end

/-! ### keywords -/
section
variable {X : Cx} {CX : CXT} {k : Nat} {f C : Addr} {fd : FuncData} {ps ks : List Str} {sp : Sp} {E : XK} {x m : Str} {p pos apos kpos : Pos} {e o : Expr} {es : List Expr} {kws : List Keyword} {te ta : TE} {t tk : TA} {nm : Option Str}
variable {g : List Value → List Value → List Value} {gV : List V → List V → List V}
end

/-! ### a def's body keeps its promise -/
/-- names: the parameters first -/
structure FnScope (N P : List Str) (sc : Scope) : Prop where
  kind : sc.kind = .function
  co : sc.isCoroutine = false
  gen : sc.isGenerator = false
  nd : N.Nodup
  pre : N.take P.length = P
  par : ∀ x ∈ P, sc.names.lookup x = some .local ∨ sc.names.lookup x = some .cell
  nofree : ∀ y ∈ sc.names, y.2 ≠ .free

theorem bindL_out {kindOf : Str → Option NameKind} {x : Str} : ∀ {binds : List (Str × Value)} {m : Str → Option Value}, (∀ v, (x, v) ∉ binds) → bindL kindOf binds m x = m x
  | [], _, _ => rfl
  | (n, v) :: r, m, h => by
    unfold bindL
    rw [bindL_out fun w hw => h w (List.mem_cons_of_mem _ hw)]
    split
    · have : x ≠ n := by rintro rfl; exact h v List.mem_cons_self
      simp [this]
    · rfl
theorem bindC_out {kindOf : Str → Option NameKind} {x : Str} : ∀ {binds : List (Str × Value)} {m : Str → Option Value}, (∀ v, (x, v) ∉ binds) → bindC kindOf binds m x = m x
  | [], _, _ => rfl
  | (n, v) :: r, m, h => by
    unfold bindC
    rw [bindC_out fun w hw => h w (List.mem_cons_of_mem _ hw)]
    split
    · rfl
    · have : x ≠ n := by rintro rfl; exact h v List.mem_cons_self
      simp [this]
theorem bindL_get {kindOf : Str → Option NameKind} {x : Str} {v : Value} : ∀ {P : List Str} {vs : List Value} {i : Nat} {m : Str → Option Value}, P.Nodup → P[i]? = some x → vs[i]? = some v → kindOf x = some .local →
    bindL kindOf (P.zip vs) m x = some v
  | [], _, _, _, _, h, _, _ => by simp at h
  | _ :: _, [], _, _, _, _, h, _ => by simp at h
  | p :: P, w :: vs, 0, m, nd, h1, h2, hk => by
    simp at h1 h2; subst h1; subst h2
    show bindL kindOf ((p, w) :: P.zip vs) m p = _
    unfold bindL
    rw [bindL_out fun v hv => (List.nodup_cons.mp nd).1 (List.of_mem_zip hv).1, if_pos hk]
    simp
  | p :: P, w :: vs, i + 1, m, nd, h1, h2, hk => by
    show bindL kindOf ((p, w) :: P.zip vs) m x = _
    unfold bindL
    exact bindL_get (i := i) (List.nodup_cons.mp nd).2 (by simpa using h1) (by simpa using h2) hk
theorem bindC_get {kindOf : Str → Option NameKind} {x : Str} {v : Value} : ∀ {P : List Str} {vs : List Value} {i : Nat} {m : Str → Option Value}, P.Nodup → P[i]? = some x → vs[i]? = some v → kindOf x ≠ some .local →
    bindC kindOf (P.zip vs) m x = some v
  | [], _, _, _, _, h, _, _ => by simp at h
  | _ :: _, [], _, _, _, _, h, _ => by simp at h
  | p :: P, w :: vs, 0, m, nd, h1, h2, hk => by
    simp at h1 h2; subst h1; subst h2
    show bindC kindOf ((p, w) :: P.zip vs) m p = _
    unfold bindC
    rw [bindC_out fun v hv => (List.nodup_cons.mp nd).1 (List.of_mem_zip hv).1, if_neg hk]
    simp
  | p :: P, w :: vs, i + 1, m, nd, h1, h2, hk => by
    show bindC kindOf ((p, w) :: P.zip vs) m x = _
    unfold bindC
    exact bindC_get (i := i) (List.nodup_cons.mp nd).2 (by simpa using h1) (by simpa using h2) hk

/-- the names' values at the entry -/
noncomputable def start (N : List Str) (vs : List V) : St := vs.map some ++ List.replicate (N.length - vs.length) none

/-- the context of a def's body, at its entry; an exception leaves the frame, then lies as CX says -/
noncomputable def cxOf (CX : CXT) (P : Program) (w : World) (K : PySem.W.Frag) (mg : Str → Option Value) (base : Heap) (N : List Str) (qual : Str) (scope : Scope) (f : Addr) (cd : Value) (A : Around) (outer : List Env) (s : Shared) (H : Hp) (E : XK) : Cx where
  prog := P
  w := w
  K := K
  mg := mg
  base := base
  A := A.deeper (envOfC qual scope s.heap.objs.size f cd)
  N := N
  s₀ := s
  H₀ := H
  env := envOfC qual scope s.heap.objs.size f cd
  outer := outer
  stack := envOfC qual scope s.heap.objs.size f cd :: outer
  ex := []
  calm := true
  fn := fun _ => true
  pn := []
  xe := fun e s' => wpAny (model P w) (A.deeper (envOfC qual scope s.heap.objs.size f cd)) (leaving (envOfC qual scope s.heap.objs.size f cd) e) (fun _ s'' => CX outer H s E e s'') (fun e' s'' => CX outer H s E e' s'') s'

theorem cell_has {sc : Scope} {n : Nat} {x : Str} (h : sc.names.lookup x = some .cell) : ∃ c, (cellsFrom n sc.names []).lookup x = some c := by
  have q := PySem.W.cellsFrom_some sc.names n [] (.inl h)
  exact Option.isSome_iff_exists.mp q

theorem inv_start {CX : CXT} {P : Program} {w : World} {K : PySem.W.Frag} {mg : Str → Option Value} {base : Heap} {N ps : List Str} {qual : Str} {scope : Scope} {f : Addr} {cd : Value} {A : Around} {outer : List Env} {s s1 : Shared} {H : Hp} {E : XK} {us : List Value} {vs : List V}
    (S : FnScope N ps scope) (hd : A.handled = none) (e0 : Env0 P w K mg base A outer s H) (hl : vs.length = ps.length) (r : Vals vs us)
    (x : InCallC s s.heap.objs.size (bindL (envOfC qual scope s.heap.objs.size f cd).kindOf (ps.zip us) fun _ => none) (cellsFrom (s.heap.objs.size + 1) scope.names []) (bindC (envOfC qual scope s.heap.objs.size f cd).kindOf (ps.zip us) fun _ => none) s1) :
    Inv (cxOf CX P w K mg base N qual scope f cd A outer s H E) [] (start N vs) H s1 := by
  have hpl : ps.length ≤ N.length := by have := congrArg List.length S.pre; rw [List.length_take] at this; omega
  obtain ⟨h1, tk, rfl, hk⟩ := x.done
  have noA : ∀ b : Addr, b ∉ (cxOf CX P w K mg base N qual scope f cd A outer s H E).ex := fun b z => absurd (show b ∈ ([] : List Addr) from z) (by simp)
  refine ⟨⟨e0.mod, S.kind, rfl, rfl, Nat.le_refl _, fun y z c h1 h2 => ?_, fun y hy => ?_, fun y c _ h => ?_, fun _ => hd, Around.frames_deeper e0.frames, .inr ⟨rfl, rfl⟩, fun b z => absurd z (noA b), e0.bs, e0.bsz, fun b _ _ => noA b, fun b z => absurd z (noA b), e0.funs, e0.frf⟩,
    rfl, e0.bare, Un.kept hk, ⟨_, x.toInCall.ns, fun i y v h1 h2 h3 => ?_⟩, fun y c h => ⟨_, x.cell y c h⟩, e0.hok.fresh (Nat.le_refl _), fun y c h => ?_, fun p hp => absurd (show p ∈ ([] : List (Addr × Obj)) from hp) (by simp), e0.hok.kept hk, ?_⟩
  · exact name_of_addr x.apart (PySem.mem_of_lookup h1) (PySem.mem_of_lookup h2)
  · have hy : scope.names.lookup y = some .cell ∨ scope.names.lookup y = some .free := hy
    rcases hy with hy | hy
    · exact cell_has hy
    · exact absurd rfl (S.nofree _ (PySem.mem_of_lookup hy))
  · exact Nat.le_of_lt (x.above y c (PySem.mem_of_lookup h))
  · have hi : i < vs.length := by
      unfold start at h2
      by_cases hi : i < vs.length
      · exact hi
      · rw [List.getElem?_append_right (by simpa using hi)] at h2
        rw [List.getElem?_replicate] at h2
        split at h2 <;> cases h2
    have ha : vs[i]? = some v := by
      unfold start at h2
      rw [List.getElem?_append_left (by simpa using hi), List.getElem?_map] at h2
      cases e : vs[i]? with
      | none => rw [e] at h2; cases h2
      | some a => rw [e] at h2; cases h2; rfl
    obtain ⟨u, hu, rv⟩ := r.get ha
    have hp : ps[i]? = some y := by
      rw [← S.pre, List.getElem?_take_of_lt (by omega)]; exact h1
    have ndP : ps.Nodup := by rw [← S.pre]; exact S.nd.sublist (List.take_sublist _ _)
    refine ⟨u, rv, ?_⟩
    rcases S.par y (List.mem_of_getElem? hp) with k | k
    · exact .inl ⟨k, bindL_get ndP hp hu k⟩
    · obtain ⟨c, e⟩ := cell_has (n := s.heap.objs.size + 1) k
      refine .inr ⟨.inl k, c, e, ?_⟩
      have q := x.cell y c e
      rw [bindC_get ndP hp hu (by show scope.names.lookup y ≠ _; rw [k]; decide)] at q
      exact q
  · exact e0.hok.fresh (Nat.le_of_lt (x.above y c (PySem.mem_of_lookup h)))
  · unfold start
    show _ = N.length
    rw [List.length_append, List.length_map, List.length_replicate]
    omega

/-- THE RULE: a def (or a method) of the text, by its body. The body's reading t is chosen for each entry; it is run at the parameters' values -/
theorem fn_of {CX : CXT} {P : Program} {w : World} {K : PySem.W.Frag} {mg : Str → Option Value} {base : Heap} {k : Nat} {f : Addr} {name qual : Str} {params : Arguments} {body : List Stmt} {scope : Scope} {dV kV doc pm cdv ct oc : Value} {an od : Option Addr}
    {osl : Array (Option Value)} {N ps : List Str} {sp : Sp} (lk : K.lookup f = some ⟨oc, od, .func (PySem.W.fnOf name qual params body scope dV kV doc pm an cdv ct), osl⟩) (hcd : PySem.W.codeIn K cdv qual = true) (S : FnScope N ps scope)
    (len : ∀ vs H Q E, sp vs H Q E → vs.length = ps.length)
    (hbody : ∀ (A : Around) (outer : List Env) (s : Shared) (H : Hp) (vs : List V) (Q : VK) (E : XK), Room k (A.deeper (envOfC qual scope s.heap.objs.size f cdv)) → sp vs H Q E →
      ∃ t, PSs (cxOf CX P w K mg base N qual scope f cdv A outer s H E) body t ∧ t { nx := fun _ H' => Q .non H', rt := Q } (start N vs) H) :
    FnOk P w K mg base CX (k + 1) f (PySem.W.fnOf name qual params body scope dV kV doc pm an cdv ct) ps sp := by
  refine ⟨len, fun A outer s H args us vs Q E hr e0 hb r hsp => ?_⟩
  have hl := len _ _ _ _ hsp
  have KX : K.In s.heap := e0.mod.kin.keeps fun b o e => (e0.bs b o e).1
  have lim : s.heap.NoLimit := e0.mod.nolimit.keeps fun b o e => (e0.bs b o e).1
  have hkind : ∀ y ∈ ps.zip us, scope.names.lookup y.1 = some .local ∨ (scope.names.lookup y.1 = some .cell ∧ ((cellsFrom (s.heap.objs.size + 1) scope.names []).lookup y.1).isSome = true) := fun ⟨n, v⟩ hy => by
    rcases S.par n (List.of_mem_zip hy).1 with q | q
    · exact .inl q
    · exact .inr ⟨q, PySem.W.cellsFrom_some _ _ _ (.inl q)⟩
  refine codeAny_call_function hr.depth (KX _ _ lk) rfl S.co S.gen rfl (PySem.W.codeRec_of KX hcd) (hb _ _ _ _ ?_)
  refine wpAny_newFunctionEnv_cells S.kind hkind fun env he s1 x => ?_
  subst he
  refine ⟨lim.keeps x.toInCall.keep, codeAny_func ?_⟩
  obtain ⟨t, ht, hq⟩ := hbody A outer s H vs Q E (hr.deeper _) hsp
  have I : Inv (cxOf CX P w K mg base N qual scope f cdv A outer s H E) [] (start N vs) H s1 := inv_start S hr.hd e0 hl r x
  refine wpAny_mono (ht [] s1 (start N vs) H _ I hq) (fun fl s' hs => ?_) fun e s' hs => hs
  have fin : ∀ {σ' : St} {H' : Hp} {v : V} {u : Value}, Inv (cxOf CX P w K mg base N qual scope f cdv A outer s H E) [] σ' H' s' → RelV v u → Q v H' → CE outer P w H s Q u s' :=
    fun {σ' H' v u} J rv q => ⟨v, H', J.os, J.bare, J.base, J.hok, rv, q⟩
  cases fl with
  | ret u =>
    obtain ⟨v, σ', H', J, rv, q⟩ := hs
    exact fin J rv q
  | next =>
    obtain ⟨σ', H', J, q⟩ := hs
    exact fin (v := V.non) (u := Value.none) J rfl q
  | brk =>
    obtain ⟨_, _, _, q⟩ := hs
    exact False.elim q
  | cont =>
    obtain ⟨_, _, _, q⟩ := hs
    exact False.elim q
end L2

namespace L2
open PySem PySem.Spec PyProof.Rows
section
variable {X : Cx} {x : Str} {p pos : Pos} {e : Expr} {es : List Expr} {t : TA} {id T : String} {r : List V → Hp → VK → Prop}

noncomputable def tCB (r : List V → Hp → VK → Prop) (t : TA) : TE := fun σ H Q => t σ H fun vs H1 => r vs H1 Q
/-- f(e, ..), f a built-in function -/
theorem pe_callB (hc : CallR X (.builtin id) r) (hg : Gl X x) (hm : X.mg x = none) (hv : bootBuiltins x = some (.builtin id)) (ha : PA X (e :: es) t) (hn : x ≠ "__name__" := by decide) (hdb : (x == ("__debug__" : Str)) = false := by decide)
    (he : starEach (e :: es) X.env = (false, eval e X.env) :: starEach es X.env := by rfl) (hpl : (backTo pos (starEach es X.env)).any (·.1) = false := by rfl) : PE X (.Call (.Name x p) (e :: es) [] pos) (tCB r t) := by
  intro pins s σ H Q I h
  refine wpAny_Call_Name_kw (ld_blt I hg hm hv ?_ hn hdb)
  exact PyProof.Rows.callWith_builtin1 (thn (ha pos pins s σ H _ I h) fun us s1 ⟨vs, H1, I1, r1, q1⟩ => hc pins s1 σ H1 vs us Q I1 r1 q1) he hpl
/-- T(e, ..), T a built-in type -/
theorem pe_callTy (hc : CallR X (.type T) r) (hg : Gl X x) (hm : X.mg x = none) (hv : bootBuiltins x = some (.type T)) (ha : PA X (e :: es) t) (hn : x ≠ "__name__" := by decide) (hdb : (x == ("__debug__" : Str)) = false := by decide)
    (he : starEach (e :: es) X.env = (false, eval e X.env) :: starEach es X.env := by rfl) (hpl : (backTo pos (starEach es X.env)).any (·.1) = false := by rfl) : PE X (.Call (.Name x p) (e :: es) [] pos) (tCB r t) := by
  intro pins s σ H Q I h
  refine wpAny_Call_Name_kw (ld_blt I hg hm hv ?_ hn hdb)
  exact PyProof.Rows.callWith_type1 (thn (ha pos pins s σ H _ I h) fun us s1 ⟨vs, H1, I1, r1, q1⟩ => hc pins s1 σ H1 vs us Q I1 r1 q1) he hpl
end
end L2

namespace HT
open PySem PyProof.Rows

section
open PySem.SeqAt
open PySem.AutoSeq1 (wpAny_loadPart')
open PySem.MeetsSeq PySem.MeetsSeq2 PySem.MeetsSeq3

end

section
variable {prog : Program} {w : World} {A : Around} {E : Value → Shared → Prop} {s : Shared}

/-! ### t[a:b], not the whole -/
/-- a slice's bound as a place among n (d where it is left out) -/
noncomputable def sIx (n d : Nat) : Option Int → Nat
  | none => d
  | some v => if v < 0 then (v + (n : Int)).toNat else min v.toNat n
theorem sIx_none (n d : Nat) : sIx n d none = d := rfl
theorem sIx_nat (n d k : Nat) : sIx n d (some (k : Int)) = min k n := by
  show (if (k : Int) < 0 then ((k : Int) + (n : Int)).toNat else min (k : Int).toNat n) = min k n
  rw [if_neg (by omega), Int.toNat_natCast]
end
end HT

namespace L2
open PySem PySem.Spec PyProof.Rows

/-! ### the parts of a slice -/
noncomputable abbrev TO := St → Hp → (Option Int → Hp → Prop) → Prop
/-- a slice's part (left out, or an int) -/
noncomputable def PO (X : Cx) (e : Option Expr) (t : TO) : Prop :=
  ∀ (pins : List (Addr × Obj)) (s : Shared) (σ : St) (H : Hp) (Q : Option Int → Hp → Prop), Inv X pins σ H s → t σ H Q →
    wpAny (model X.prog X.w) X.A (evalPart e X.env) (fun u s' => ∃ o H', Inv X pins σ H' s' ∧ IsPart u o ∧ Q o H') X.xe s
noncomputable def tNoPart : TO := fun _ H Q => Q none H
noncomputable def tPart (t : TE) : TO := fun σ H Q => t σ H fun x H1 => ∃ i, x = .int i ∧ Q (some i) H1

theorem intsAre_of {ns : List Int} : ∀ {us : List Value}, Vals (ns.map V.int) us → IntsAre us ns := by
  induction ns with
  | nil => intro us r; rw [List.map_nil] at r; cases r; exact .nil
  | cons n ns ih =>
    intro us r
    rw [List.map_cons] at r
    cases r with
    | cons r1 r2 =>
      obtain ⟨t, e⟩ := r1
      subst e
      exact .cons n t (ih r2)

section
variable {X : Cx} {e : Expr} {te : TE} {lo hi : Option Expr} {tl th : TO} {pos p2 : Pos}

theorem po_none : PO X none tNoPart := by
  intro pins s σ H Q I h
  rw [evalPart_none]
  exact wpAny_pure ⟨none, H, I, .none, h⟩
theorem po_some (h : PE X e te) : PO X (some e) (tPart te) := by
  intro pins s σ H Q I hw
  rw [evalPart_some]
  refine thn (h pins s σ H _ I hw) fun u s1 ⟨x, H1, I1, r1, q1⟩ => ?_
  obtain ⟨i, rfl, q⟩ := q1
  obtain ⟨t, rfl⟩ := r1
  exact ⟨some i, H1, I1, .int i t, q⟩

/-- what a slice of a value is, by values: the slice object stands at sl -/
noncomputable def SlR (X : Cx) (r : V → Option Int → Option Int → Hp → VK → Prop) : Prop :=
  ∀ (pins : List (Addr × Obj)) (s : Shared) (σ : St) (H : Hp) (x : V) (v vl vu : Value) (lo hi : Option Int) (sl : Addr) (Q : VK), Inv X pins σ H s → RelV x v → s.heap.IsSliceOf sl vl vu .none → IsPart vl lo → IsPart vu hi → r x lo hi H Q →
    ∃ T id, typeLookup (.type T) "__getitem__" = pure (some (.builtin id)) ∧ s.TypeIs v T ∧ wpAny (model X.prog X.w) X.A (getItem v (.ref sl)) (EP X pins σ Q) X.xe s
noncomputable def tSl (r : V → Option Int → Option Int → Hp → VK → Prop) (te : TE) (tl th : TO) : TE := fun σ H Q => te σ H fun x H1 => tl σ H1 fun l H2 => th σ H2 fun u H3 => r x l u H3 Q
/-- a[lo:hi], any a -/
theorem pe_slice {r : V → Option Int → Option Int → Hp → VK → Prop} (hr : SlR X r) (he : PE X e te) (hl : PO X lo tl) (hu : PO X hi th) : PE X (.Subscript e (.Slice lo hi none p2) pos) (tSl r te tl th) := by
  intro pins s σ H Q I h
  refine Subscript_ (thn (he pins s σ H _ I h) fun v s1 ⟨x, H1, I1, r1, q1⟩ => ?_)
  refine wpAny_Slice (thn (hl pins s1 σ H1 _ I1 q1) fun vl s2 ⟨l, H2, I2, pl, q2⟩ => thn (hu pins s2 σ H2 _ I2 q2) fun vu s3 ⟨u, H3, I3, pu, q3⟩ => ?_)
  rw [evalPart_none]
  refine wpAny_pure ?_
  have I4 : Inv X pins σ H3 { s3 with heap := s3.heap.push { cls := .type "slice", data := .fields #[vl, vu, .none] } } := I3.kept (t' := s3.toks) fun b ob q => Heap.get?_push_of_some _ q
  obtain ⟨T, id, hT, ht, hg⟩ := hr pins { s3 with heap := s3.heap.push { cls := .type "slice", data := .fields #[vl, vu, .none] } } σ H3 x v vl vu l u s3.heap.objs.size Q I4 r1 (Heap.IsSliceOf.new ..) pl pu q3
  show wpAny (model X.prog X.w) X.A (subscriptTail e (.Slice lo hi none p2) v (.ref s3.heap.objs.size)) (EP X pins σ Q) X.xe { s3 with heap := s3.heap.push { cls := .type "slice", data := .fields #[vl, vu, .none] } }
  exact tail_any (ops := [.ref s3.heap.objs.size, v]) ht hT hg (by with_unfolding_all rfl)

/-- the items of xs[lo:hi] -/
noncomputable def cutV (xs : List V) (lo hi : Option Int) : List V := (xs.drop (HT.sIx xs.length 0 lo)).take (HT.sIx xs.length xs.length hi - HT.sIx xs.length 0 lo)
theorem cutV_length (xs : List V) (lo hi : Option Int) : (cutV xs lo hi).length ≤ xs.length := by
  unfold cutV
  rw [List.length_take, List.length_drop]
  omega
/-! ### t < u, t + u -/
end
end L2

namespace L2
open PySem PySem.Spec PyProof.Rows

/-! ### places -/
/-- the place that an index of any sign means -/
noncomputable def ixN (n : Nat) (i : Int) : Option Nat := if 0 ≤ i then (if i < n then some i.toNat else none) else if -(n : Int) ≤ i then some (i + n).toNat else none
noncomputable def atI {α : Type} (xs : List α) (i : Int) : Option α := (ixN xs.length i).bind fun j => xs[j]?
theorem ixN_seq {n : Nat} {i : Int} {j : Nat} (h : ixN n i = some j) : seqIndex? i n = some j ∧ j < n ∧ -(n : Int) ≤ i ∧ i < n := by
  unfold ixN at h
  by_cases h0 : 0 ≤ i
  · rw [if_pos h0] at h
    by_cases h1 : i < n
    · rw [if_pos h1] at h
      have e : i.toNat = j := Option.some.inj h
      exact ⟨by rw [seqIndex_of h0 h1, e], by omega, by omega, h1⟩
    · rw [if_neg h1] at h; cases h
  · rw [if_neg h0] at h
    by_cases h1 : -(n : Int) ≤ i
    · rw [if_pos h1] at h
      have e : (i + n).toNat = j := Option.some.inj h
      exact ⟨by rw [seqIndex_neg (by omega) h1, e], by omega, h1, by omega⟩
    · rw [if_neg h1] at h; cases h
theorem atI_get {α : Type} {xs : List α} {i : Int} {v : α} (h : atI xs i = some v) : ∃ j, seqIndex? i xs.length = some j ∧ xs[j]? = some v ∧ j < xs.length ∧ -(xs.length : Int) ≤ i ∧ i < xs.length := by
  unfold atI at h
  cases e : ixN xs.length i with
  | none => rw [e] at h; cases h
  | some j =>
    rw [e] at h
    obtain ⟨h1, h2, h3, h4⟩ := ixN_seq e
    exact ⟨j, h1, h, h2, h3, h4⟩
theorem atI_nat {α : Type} {xs : List α} {j : Nat} {v : α} (h : xs[j]? = some v) : atI xs (j : Int) = some v := by
  have hj : j < xs.length := (List.getElem?_eq_some_iff.mp h).1
  have e : ixN xs.length (j : Int) = some j := by
    unfold ixN
    rw [if_pos (by omega), if_pos (by omega)]; simp
  unfold atI; rw [e]; exact h
theorem atI_last {α : Type} (xs : List α) (v : α) : atI (xs ++ [v]) (-1) = some v := by
  have hl : (xs ++ [v]).length = xs.length + 1 := by simp
  have e : ixN (xs ++ [v]).length (-1) = some xs.length := by
    unfold ixN
    rw [hl, if_neg (by decide), if_pos (by omega)]
    congr 1
    omega
  unfold atI
  rw [e]
  show (xs ++ [v])[xs.length]? = some v
  simp

/-! ### what may be subscripted -/
/-- what stands as an index of a plain subscript -/
noncomputable def PlainIx (b : Expr) : Prop := ∀ o i, subscripted b false o i = operate [o, i] (getItem o i)
/-- a subscript by values -/
noncomputable def IxR (X : Cx) (r : R2) : Prop :=
  ∀ (value slice : Expr) (pins : List (Addr × Obj)) (s : Shared) (σ : St) (H : Hp) (x y : V) (v u : Value) (Q : VK), Inv X pins σ H s → RelV x v → RelV y u → r x y H Q →
    subscripted slice false v u = operate [v, u] (getItem v u) → wpAny (model X.prog X.w) X.A (subscriptTail value slice v u) (EP X pins σ Q) X.xe s
/-- a call of a builtin's method by values: the receiver, the arguments -/
noncomputable def MtR (X : Cx) (id : String) (r : V → List V → Hp → VK → Prop) : Prop :=
  ∀ (pins : List (Addr × Obj)) (s : Shared) (σ : St) (H : Hp) (x : V) (xs : List V) (v : Value) (us : List Value) (Q : VK), Inv X pins σ H s → RelV x v → Vals xs us → r x xs H Q →
    wpAny (model X.prog X.w) X.A (call (.builtin id) (v :: us)) (EP X pins σ Q) X.xe s
section
variable {X : Cx} {a b : Expr} {ta tb : TE} {pos : Pos}
theorem IxR.or {r r' : R2} (h : IxR X r) (h' : IxR X r') : IxR X (fun x y H Q => r x y H Q ∨ r' x y H Q) := by
  intro value slice pins s σ H x y v u Q I rx ry q hs
  rcases q with q | q
  · exact h value slice pins s σ H x y v u Q I rx ry q hs
  · exact h' value slice pins s σ H x y v u Q I rx ry q hs
/-- a[b] -/
theorem pe_ix {r : R2} (hr : IxR X r) (ha : PE X a ta) (hb : PE X b tb) (hs : PlainIx b) : PE X (.Subscript a b pos) (tOp r ta tb) := by
  intro pins s σ H Q I h
  exact Subscript_ (binT ha hb I h fun v u s2 x y H2 I2 rx ry q => hr a b pins s2 σ H2 x y v u Q I2 rx ry q (hs _ _))

noncomputable def rIxL (K : PySem.W.Frag) : R2 := fun x y H Q => ∃ p xs i v, x = .ref p ∧ y = .int i ∧ SqL K H p xs ∧ atI xs i = some v ∧ Q v H
noncomputable def rIxT (K : PySem.W.Frag) : R2 := fun x y H Q => ∃ p xs i v, x = .ref p ∧ y = .int i ∧ SqT K H p xs ∧ atI xs i = some v ∧ Q v H
noncomputable def rIxS : R2 := fun x y H Q => ∃ z i c, x = .str z ∧ y = .int i ∧ z.length ≤ sizeLine ∧ atI z.cps.toList i = some c ∧ Q (.str ⟨#[c]⟩) H
theorem ix_list : IxR X (rIxL X.K) := by
  intro value slice pins s σ H x y v u Q I rx ry h hs
  obtain ⟨p, xs, i, z, rfl, rfl, hq, he, q⟩ := h
  cases rx
  obtain ⟨t, rfl⟩ := ry
  obtain ⟨its, r, pl, hz⟩ := I.list hq
  obtain ⟨j, h1, h2, h3, h4, h5⟩ := atI_get he
  obtain ⟨w, ew, rw'⟩ := r.get h2
  have hl := r.length
  have hn := line63
  have fin : EP X pins σ Q w s := ⟨z, H, I, rw', q⟩
  by_cases h0 : 0 ≤ i
  · have hj : i.toNat = j := by
      rw [seqIndex_of h0 h5] at h1
      exact Option.some.inj h1
    exact item_listR pl.isList h0 (by omega) (by rw [hj]; simpa using ew) fin hs
  · have hj : (i + (its.toArray.size : Int)).toNat = j := by
      rw [seqIndex_neg (by omega) h4] at h1
      rw [List.size_toArray, ← hl]
      exact Option.some.inj h1
    exact subscriptTail_builtinR (x := w) pl.isList.typeIs slot_list_getitem.lookup
      (wpAny_getItem_list_neg (Q := fun r s' => r = w ∧ EP X pins σ Q r s') pl.isList (by omega) (by rw [List.size_toArray] <;> omega) (by omega) (by rw [hj]; simpa using ew) ⟨rfl, fin⟩) hs
theorem ix_tup : IxR X (rIxT X.K) := by
  intro value slice pins s σ H x y v u Q I rx ry h hs
  obtain ⟨p, xs, i, z, rfl, rfl, hq, he, q⟩ := h
  cases rx
  obtain ⟨t, rfl⟩ := ry
  obtain ⟨its, r, pl, hz⟩ := I.tuple hq
  obtain ⟨j, h1, h2, h3, h4, h5⟩ := atI_get he
  obtain ⟨w, ew, rw'⟩ := r.get h2
  have hl := r.length
  have hn := line63
  have fin : EP X pins σ Q w s := ⟨z, H, I, rw', q⟩
  exact subscriptTail_builtinR (x := w) pl.typeIs slot_tuple_getitem.lookup
    (getItem_tuple (j := j) (Q := fun r s' => r = w ∧ EP X pins σ Q r s') pl (by omega) (by omega) (by rw [List.size_toArray, ← hl]; exact h1) (by simpa using ew) ⟨rfl, fin⟩) hs
theorem ix_str : IxR X rIxS := by
  intro value slice pins s σ H x y v u Q I rx ry h hs
  obtain ⟨z, i, c, rfl, rfl, hz, he, q⟩ := h
  obtain ⟨t, rfl⟩ := rx
  obtain ⟨t', rfl⟩ := ry
  obtain ⟨j, h1, h2, h3, h4, h5⟩ := atI_get he
  have hl : z.cps.toList.length = z.length := by simp [Str.length]
  rw [hl] at h1 h4 h5
  have hn := line63
  exact tail_any (typeIs_str s z t) slot_str_getitem.lookup (getItem_str (c := c) (by
    have e1 : decide (i < -(2 ^ 63 : Int)) = false := decide_eq_false (by omega)
    have e2 : decide (i ≥ 2 ^ 63) = false := decide_eq_false (by omega)
    rw [e1, e2, Bool.or_false]) (by rw [h1]; simpa using h2) ⟨.str ⟨#[c]⟩, H, I.tok _, ⟨_, rfl⟩, q⟩) hs
/-- list, tuple or str -/
noncomputable def rIx (K : PySem.W.Frag) : R2 := fun x y H Q => rIxL K x y H Q ∨ rIxT K x y H Q ∨ rIxS x y H Q
theorem ix_seq : IxR X (rIx X.K) := ix_list.or (ix_tup.or ix_str)

/-! ### xs[i] = v, any sign -/
/-- the list's object behind a store -/
theorem mapSeq_set (its : List Value) (n j : Nat) (u : Value) : Obj.mapSeq (·.setIfInBounds j u) { cls := .type "list", data := .seq its.toArray n } = { cls := .type "list", data := .seq (its.set j u).toArray n } := by
  simp [Obj.mapSeq]
theorem Inv.lst {pins : List (Addr × Obj)} {σ : St} {H : Hp} {s : Shared} {p : Addr} {xs : List V} (I : Inv X pins σ H s) (h : H p = some (.lst xs)) :
    ∃ (its : List Value) (n : Nat), Vals xs its ∧ s.heap.get? p = some { cls := .type "list", data := .seq its.toArray n } ∧ xs.length ≤ sizeLine := by
  obtain ⟨z, its, n, r, e⟩ := I.hok p _ h
  exact ⟨its, n, r, e, z⟩
/-- the list at p is written by an update of its object -/
theorem Inv.lstUpd {pins : List (Addr × Obj)} {σ : St} {H : Hp} {s : Shared} {p : Addr} {xs ys : List V} {its its' : List Value} {n n' : Nat} {f : Obj → Obj} (I : Inv X pins σ H s) (h : H p = some (.lst xs))
    (ho : s.heap.get? p = some { cls := .type "list", data := .seq its.toArray n }) (hf : f { cls := .type "list", data := .seq its.toArray n } = { cls := .type "list", data := .seq its'.toArray n' }) (r : Vals ys its') (hz : ys.length ≤ sizeLine) (t : Nat) :
    Inv X pins σ (upd H p (.lst ys)) { s with heap := s.heap.update p f, toks := t } := by
  have e : (s.heap.update p f).get? p = some { cls := .type "list", data := .seq its'.toArray n' } := by
    rw [Heap.get?_update_self f ho (by rw [hf] <;> rfl), hf]
  refine I.write (x := p) (e := p) (by rw [h]; trivial) (.inl rfl) (fun b u hb q => (Heap.get?_update_other _ _ (Ne.symm hb)).trans q) ⟨_, e⟩ ?_
  exact ⟨hz, its', n', r, e⟩
noncomputable def rSetL : V → V → V → Hp → (Hp → Prop) → Prop := fun o i v H Q => ∃ p xs k j, o = .ref p ∧ i = .int k ∧ H p = some (.lst xs) ∧ ixN xs.length k = some j ∧ Q (upd H p (.lst (xs.set j v)))
theorem set_list : PSet X rSetL := by
  intro pins s σ H o i v ov iv u Q I ro ri rv h
  obtain ⟨p, xs, k, j, rfl, rfl, hp, hj, q⟩ := h
  cases ro
  obtain ⟨t, rfl⟩ := ri
  obtain ⟨its, n, r, ho, hz⟩ := I.lst hp
  obtain ⟨h1, h2, h3, h4⟩ := ixN_seq hj
  have hl := r.length
  have hn := line63
  have I' : Inv X pins σ (upd H p (.lst (xs.set j v))) { s with heap := s.heap.update p (Obj.mapSeq (·.setIfInBounds j u)) } :=
    I.lstUpd hp ho (mapSeq_set its n j u) (r.set rv j) (by rw [List.length_set]; exact hz) s.toks
  by_cases h0 : 0 ≤ k
  · have hk : k.toNat = j := by
      rw [seqIndex_of h0 h4] at h1
      exact Option.some.inj h1
    exact PySem.W.ki_setAt ho h0 (by omega) (by rw [List.size_toArray, ← hl]; exact h4) (by rw [hk]; exact ⟨_, I', q⟩)
  · have hk : (k + (its.toArray.size : Int)).toNat = j := by
      rw [seqIndex_neg (by omega) h3] at h1
      rw [List.size_toArray, ← hl]
      exact Option.some.inj h1
    exact PySem.W.ki_setBack ho (by omega) (by rw [List.size_toArray, ← hl]; exact h3) (by omega) (by rw [hk]; exact ⟨_, I', q⟩)

/-! ### slices -/
theorem slice_bounds (lo hi : Option Int) (n : Nat) : (sliceBounds lo hi none n).1 = ((HT.sIx n 0 lo : Nat) : Int) ∧ (sliceBounds lo hi none n).2.1 = ((HT.sIx n n hi : Nat) : Int) ∧ (sliceBounds lo hi none n).2.2 = 1 := by
  refine ⟨?_, ?_, rfl⟩
  · cases lo with
    | none => simp [sliceBounds, HT.sIx]
    | some i =>
      simp only [sliceBounds, HT.sIx, Option.getD_none, show (1 : Int) > 0 by decide, if_true]
      by_cases h : i < 0
      · simp only [h, if_true] <;> omega
      · simp only [h, if_false] <;> omega
  · cases hi with
    | none => simp [sliceBounds, HT.sIx]
    | some i =>
      simp only [sliceBounds, HT.sIx, Option.getD_none, show (1 : Int) > 0 by decide, if_true]
      by_cases h : i < 0
      · simp only [h, if_true] <;> omega
      · simp only [h, if_false] <;> omega
theorem slicePick_cut (its : List Value) (lo hi : Option Int) : slicePick its.toArray lo hi none = ((its.drop (HT.sIx its.length 0 lo)).take (HT.sIx its.length its.length hi - HT.sIx its.length 0 lo)).toArray := by
  obtain ⟨h1, h2, h3⟩ := slice_bounds lo hi its.toArray.size
  unfold slicePick
  rw [h1, h2, h3]
  simp only [sliceRange_one, pick_run, List.size_toArray] <;> rfl
/-- xs[lo:hi] of a list: a new list -/
noncomputable def rSlL (K : PySem.W.Frag) : V → Option Int → Option Int → Hp → VK → Prop := fun x lo hi H Q => ∃ a xs, x = .ref a ∧ SqL K H a xs ∧ ∀ p, H p = none → Q (.ref p) (upd H p (.lst (cutV xs lo hi)))
theorem sl_list : SlR X (rSlL X.K) := by
  intro pins s σ H x v vl vu lo hi sl Q I rx hs pl pu h
  obtain ⟨a, xs, rfl, hx, q⟩ := h
  cases rx
  obtain ⟨its, r, ht, hz⟩ := I.list hx
  have hlen := r.length
  refine ⟨"list", _, slot_list_getitem.lookup, ht.isList.typeIs, ?_⟩
  refine wpAny_getItem_list_slice ht.isList hs pl pu .none (by simp) ?_ (by rw [List.size_toArray] <;> omega)
  rw [slicePick_cut, ← hlen]
  refine ⟨.ref s.heap.objs.size, _, I.laid (t' := s.toks) (o := .lst (cutV xs lo hi)) (fun b ob q => Heap.get?_push_of_some _ q) (Nat.le_refl _) ?_, rfl, q _ (I.hok.fresh (Nat.le_refl _))⟩
  exact ⟨Nat.le_trans (cutV_length xs lo hi) hz, _, 0, (r.drop (HT.sIx xs.length 0 lo)).take (HT.sIx xs.length xs.length hi - HT.sIx xs.length 0 lo), Heap.get?_push_size _ rfl⟩

/-! ### in, not in: flat items -/
noncomputable def flatV : V → Bool
  | .non => true
  | .bl _ => true
  | .int _ => true
  | .str _ => true
  | _ => false
/-- == of flat values -/
noncomputable def eqV : V → V → Bool
  | .non, .non => true
  | .bl a, .bl b => a == b
  | .bl a, .int b => (if a then 1 else 0) == b
  | .int a, .bl b => a == (if b then 1 else 0)
  | .int a, .int b => a == b
  | .str a, .str b => a == b
  | _, _ => false
theorem eqAt_V {A : Around} {s : Shared} {y x : V} {u v : Value} (ry : RelV y u) (rx : RelV x v) (fy : flatV y = true) (fx : flatV x = true) : SeqAt.EqAt A s u v (eqV y x) := by
  cases y with
  | non =>
    cases ry
    cases x with
    | non => cases rx; exact SeqAt.EqAt.same _
    | bl b => cases rx; exact SeqAt.EqAt.none_bool b
    | int b => obtain ⟨t, rfl⟩ := rx; exact SeqAt.EqAt.none_int b t
    | str b => obtain ⟨t, rfl⟩ := rx; exact SeqAt.EqAt.none_str b t
    | _ => exact absurd (show false = true from fx) Bool.false_ne_true
  | bl a =>
    cases ry
    cases x with
    | non => cases rx; exact SeqAt.EqAt.bool_none a
    | bl b => cases rx; exact SeqAt.EqAt.bool_bool a b
    | int b => obtain ⟨t, rfl⟩ := rx; exact SeqAt.EqAt.bool_int a b t
    | str b => obtain ⟨t, rfl⟩ := rx; exact SeqAt.EqAt.bool_str a b t
    | _ => exact absurd (show false = true from fx) Bool.false_ne_true
  | int a =>
    obtain ⟨t', rfl⟩ := ry
    cases x with
    | non => cases rx; exact SeqAt.EqAt.int_none a t'
    | bl b => cases rx; exact SeqAt.EqAt.int_bool a t' b
    | int b => obtain ⟨t, rfl⟩ := rx; exact SeqAt.EqAt.int_int a t' b t
    | str b => obtain ⟨t, rfl⟩ := rx; exact SeqAt.EqAt.int_str a t' b t
    | _ => exact absurd (show false = true from fx) Bool.false_ne_true
  | str a =>
    obtain ⟨t', rfl⟩ := ry
    cases x with
    | non => cases rx; exact SeqAt.EqAt.str_none a t'
    | bl b => cases rx; exact SeqAt.EqAt.str_bool a t' b
    | int b => obtain ⟨t, rfl⟩ := rx; exact SeqAt.EqAt.str_int a t' b t
    | str b => obtain ⟨t, rfl⟩ := rx; exact SeqAt.EqAt.str_str a t' b t
    | _ => exact absurd (show false = true from fx) Bool.false_ne_true
  | _ => exact absurd (show false = true from fy) Bool.false_ne_true
/-! ### len, list(x), tuple(x) of any list or tuple that is read -/
theorem call_len_seq : CallR X (.builtin "len") (fun xs H Q => ∃ p ys, xs = [.ref p] ∧ (SqL X.K H p ys ∨ SqT X.K H p ys) ∧ Q (.int ys.length) H) := by
  intro pins s σ H xs us Q I r h
  obtain ⟨p, ys, rfl, hq, q⟩ := h
  obtain ⟨u, rfl, rx⟩ := vals1 r
  cases rx
  have hn := line63
  rcases hq with hq | hq
  · obtain ⟨its, r', pl, hz⟩ := I.list hq
    have hlen := r'.length
    exact Calls.call_len_list pl.isList (by simp only [List.size_toArray] <;> omega) ⟨.int ys.length, H, I.tok _, ⟨s.toks + 1, by rw [List.size_toArray, hlen]⟩, q⟩
  · obtain ⟨its, r', pl, hz⟩ := I.tuple hq
    have hlen := r'.length
    exact len_tuple pl (by simp only [List.size_toArray] <;> omega) ⟨.int ys.length, H, I.tok _, ⟨s.toks + 1, by rw [List.size_toArray, hlen]⟩, q⟩
theorem call_list_of : CallR X (.type "list") (fun xs H Q => ∃ p ys, xs = [.ref p] ∧ (SqL X.K H p ys ∨ SqT X.K H p ys) ∧ ∀ l, H l = none → Q (.ref l) (upd H l (.lst ys))) := by
  intro pins s σ H xs us Q I r h
  obtain ⟨p, ys, rfl, hq, q⟩ := h
  obtain ⟨u, rfl, rx⟩ := vals1 r
  cases rx
  have fin : ∀ (its : List Value), Vals ys its → ys.length ≤ sizeLine → ∀ (h' : Heap) (c' : Nat), (∀ b o', s.heap.get? b = some o' → h'.get? b = some o') →
      h'.get? s.heap.objs.size = some { cls := .type "list", dict := none, data := .seq its.toArray c', slots := #[] } → EP X pins σ Q (.ref s.heap.objs.size) { s with heap := h' } := fun its r' hz h' c' kp e =>
    ⟨.ref s.heap.objs.size, _, I.laid (t' := s.toks) kp (Nat.le_refl _) (show ObjOk X.prog X.w _ h' _ (.lst ys) from ⟨hz, its, c', r', e⟩), rfl, q _ (I.hok.fresh (Nat.le_refl _))⟩
  rcases hq with hq | hq
  · obtain ⟨its, r', pl, hz⟩ := I.list hq
    have hlen := r'.length
    obtain ⟨o, ho, hc, n, hd⟩ := pl.isList
    exact call_list_seq p (.inl rfl) ho hc hd (fun h' c' kp e => fin its r' hz h' c' kp e) (by simp only [List.size_toArray] <;> omega)
  · obtain ⟨its, r', pl, hz⟩ := I.tuple hq
    have hlen := r'.length
    obtain ⟨o, ho, hc, n, hd⟩ := pl
    exact call_list_seq p (.inr rfl) ho hc hd (fun h' c' kp e => fin its r' hz h' c' kp e) (by simp only [List.size_toArray] <;> omega)
/-! ### the call of a builtin's method: o.m(..) -/
/-- the value is of that builtin type -/
noncomputable def tyV (K : PySem.W.Frag) (T : String) (x : V) (H : Hp) : Prop := match x with
  | .str _ => T = "str"
  | .int _ => T = "int"
  | .ref p => (T = "list" ∧ ∃ xs, SqL K H p xs) ∨ (T = "tuple" ∧ ∃ o, K.lookup p = some o ∧ o.cls = .type "tuple" ∧ o.dict = none) ∨
      (T = "dict" ∧ ((∃ kvs, H p = some (.dK kvs)) ∨ ∃ kvs, H p = some (.dT kvs))) ∨ (T = "set" ∧ ∃ S n, H p = some (.set S n))
  | _ => False
theorem tyV_is {pins : List (Addr × Obj)} {σ : St} {H : Hp} {s : Shared} {T : String} {x : V} {v : Value} (I : Inv X pins σ H s) (r : RelV x v) (ty : tyV X.K T x H) :
    s.TypeIs v T ∧ ∀ a, v = .ref a → ∃ ob, s.heap.get? a = some ob ∧ ob.dict = none := by
  cases x with
  | str z =>
    obtain ⟨t, rfl⟩ := r
    cases (show T = "str" from ty)
    exact ⟨typeIs_str s z t, fun _ e => nomatch e⟩
  | int i =>
    obtain ⟨t, rfl⟩ := r
    cases (show T = "int" from ty)
    exact ⟨typeIs_int s i t, fun _ e => nomatch e⟩
  | ref p =>
    cases r
    rcases ty with ⟨rfl, xs, hq⟩ | ⟨rfl, o, hk, hc, hd⟩ | ⟨rfl, hk⟩ | ⟨rfl, S, n, hk⟩
    · obtain ⟨its, _, pl, _⟩ := I.list hq
      refine ⟨pl.isList.typeIs, fun a e => ?_⟩
      cases e
      obtain ⟨o, n, e, c, hd, _⟩ := pl
      exact ⟨o, e, hd⟩
    · refine ⟨⟨o, I.kIn p o hk, hc⟩, fun a e => ?_⟩
      cases e
      exact ⟨o, I.kIn _ o hk, hd⟩
    · have z : ∃ o, s.heap.get? p = some o ∧ o.ExactDict := by
        rcases hk with ⟨kvs, hk⟩ | ⟨kvs, hk⟩
        · obtain ⟨_, _, _, _, o, _, _, e, ex, _⟩ := I.hok p _ hk
          exact ⟨o, e, ex⟩
        · obtain ⟨_, _, _, _, o, _, _, e, ex, _⟩ := I.hok p _ hk
          exact ⟨o, e, ex⟩
      obtain ⟨o, e, ex⟩ := z
      refine ⟨⟨o, e, ex.1⟩, fun a e2 => ?_⟩
      cases e2
      exact ⟨o, e, ex.2.1⟩
    · obtain ⟨o, _, _, _, e, ex, _⟩ := I.hok p _ hk
      refine ⟨⟨o, e, ex.1⟩, fun a e2 => ?_⟩
      cases e2
      exact ⟨o, e, ex.2.1⟩
  | _ => exact False.elim ty
noncomputable def tBM0 (K : PySem.W.Frag) (T : String) (r : V → List V → Hp → VK → Prop) (to : TE) : TE := fun σ H Q => to σ H fun x H1 => tyV K T x H1 ∧ r x [] H1 Q
noncomputable def tBM (K : PySem.W.Frag) (T : String) (r : V → List V → Hp → VK → Prop) (to : TE) (t : TA) : TE := fun σ H Q => to σ H fun x H1 => tyV K T x H1 ∧ t σ H1 fun xs H2 => r x xs H2 Q
variable {o e : Expr} {es : List Expr} {to : TE} {t : TA} {name : Str} {apos cpos : Pos} {T id : String} {r : V → List V → Hp → VK → Prop}
theorem pe_bm0 (pa : PlainAttrs T) (slot : Slot T name id) (hty : typeOf (.builtin id) = pure (.type "method_descriptor")) (hm : MtR X id r) (ho : PE X o to)
    (hbase : attributeBase o name X.env (eval o X.env) = eval o X.env := by rfl) (hline : (apos.endLine == cpos.line) = true := by rfl) : PE X (.Call (.Attribute o name apos) [] [] cpos) (tBM0 X.K T r to) := by
  intro pins s σ H Q I h
  refine wpAny_Call_method0_late hbase hline (thn (ho pins s σ H _ I h) fun v s1 ⟨x, H1, I1, r1, ty, q1⟩ => ?_)
  obtain ⟨h1, h2⟩ := tyV_is I1 r1 ty
  exact ⟨T, id, pa, slot, hty, h1, h2, Calls.callWith_builtin rfl (PySem.evalArgs_none (hm pins s1 σ H1 x [] v [] Q I1 r1 .nil q1))⟩
theorem pe_bm (pa : PlainAttrs T) (slot : Slot T name id) (hty : typeOf (.builtin id) = pure (.type "method_descriptor")) (hm : MtR X id r) (ho : PE X o to) (ha : PA X (e :: es) t)
    (hbase : attributeBase o name X.env (eval o X.env) = eval o X.env := by rfl)
    (hfew : ((backTo cpos (starEach (e :: es) X.env)).all (fun x => !x.1) && (backToKw cpos (keywordEach [] X.env)).all (fun x => x.1.isSome)
      && decide ((e :: es).length + ([] : List Keyword).length + (if ([] : List Keyword).isEmpty then 0 else 1) < 30)) = true := by rfl)
    (hline : (apos.endLine == cpos.line) = true := by rfl) (hs : starEach (e :: es) X.env = (false, eval e X.env) :: starEach es X.env := by rfl) (hplain : (backTo cpos (starEach es X.env)).any (·.1) = false := by rfl) :
    PE X (.Call (.Attribute o name apos) (e :: es) [] cpos) (tBM X.K T r to t) := by
  intro pins s σ H Q I h
  refine wpAny_Call_method_late hbase hfew hline rfl (thn (ho pins s σ H _ I h) fun v s1 ⟨x, H1, I1, r1, ty, q1⟩ => ?_)
  obtain ⟨h1, h2⟩ := tyV_is I1 r1 ty
  refine ⟨T, id, pa, slot, hty, h1, h2, ?_⟩
  have hA := ha cpos pins s1 σ H1 _ I1 q1
  rw [hs] at hA ⊢
  refine Calls.callWith_builtin (by show (false || (backTo cpos (starEach es X.env)).any (·.1)) = false; rw [hplain] <;> rfl) (Calls.evalArgs_plain ?_)
  exact thn hA fun us s2 ⟨vs, H2, I2, r2, q2⟩ => hm pins s2 σ H2 x vs v us Q I2 r1 r2 q2
/- xs.append(e), list.index on a module's tuple .. are MtR facts of 06m -/
end
end L2

namespace L2
open PySem PySem.Spec PyProof.Rows

noncomputable def MtM (X : Cx) (id : String) (r : V → List V → Hp → VK → Prop) : Prop :=
  ∀ (pins : List (Addr × Obj)) (s : Shared) (σ : St) (H : Hp) (x : V) (xs : List V) (v : Value) (us : List Value) (Q : VK), Inv X pins σ H s → RelV x v → Vals xs us → r x xs H Q →
    wpAny (model X.prog X.w) X.A (call (.builtin id) (v :: us)) (EP X pins σ Q) X.xe s

/-! ### lists of values -/
theorem Vals.one : ∀ {x : V} {us : List Value}, Vals [x] us → ∃ u, us = [u] ∧ RelV x u
  | _, _, .cons r .nil => ⟨_, rfl, r⟩
theorem Vals.zero : ∀ {us : List Value}, Vals [] us → us = []
  | _, .nil => rfl
theorem Vals.dropLast {xs : List V} {us : List Value} (h : Vals xs us) : Vals xs.dropLast us.dropLast := by
  induction h with
  | nil => exact .nil
  | cons r t ih =>
    cases t with
    | nil => exact .nil
    | cons q t' => exact .cons r ih
theorem erase_last {α : Type} (l : List α) : l.eraseIdx (l.length - 1) = l.dropLast := by
  induction l with
  | nil => rfl
  | cons a r ih =>
    cases r with
    | nil => rfl
    | cons b r =>
      have e : (a :: b :: r).length - 1 = ((b :: r).length - 1) + 1 := by
        have h1 : (a :: b :: r).length = r.length + 2 := rfl
        have h2 : (b :: r).length = r.length + 1 := rfl
        omega
      rw [e, List.eraseIdx_cons_succ, ih]
      all_goals rfl
section
variable {X : Cx} {pins : List (Addr × Obj)} {σ : St} {H : Hp} {s : Shared} {l b : Addr} {xs ys zs : List V}

/-! ### the two steps: a tracked list is rewritten, a new list is laid -/
theorem Inv.lset {its its' : List Value} {n : Nat} {f : Array Value → Array Value} {t' : Nat} (I : Inv X pins σ H s) (hH : H l = some (.lst xs))
    (e : s.heap.get? l = some { cls := .type "list", data := .seq its.toArray n }) (hf : f its.toArray = its'.toArray) (hv : Vals ys its') (hz : ys.length ≤ sizeLine) :
    Inv X pins σ (upd H l (.lst ys)) { s with heap := s.heap.update l (Obj.mapSeq f), toks := t' } := by
  have q := PySem.IsL.update e f
  rw [hf] at q
  refine I.write (x := l) (e := l) (by rw [hH]; exact trivial) (.inl rfl) (fun b' u hb hu => (Heap.get?_update_other s.heap (Obj.mapSeq f) (Ne.symm hb)).trans hu) ⟨_, q⟩ ?_
  exact ⟨hz, its', _, hv, q⟩
theorem Inv.lnew {its : List Value} {t' : Nat} (I : Inv X pins σ H s) (hv : Vals ys its) (hz : ys.length ≤ sizeLine) :
    Inv X pins σ (upd H s.heap.objs.size (.lst ys)) { s with heap := s.heap.push { cls := .type "list", data := .seq its.toArray }, toks := t' } :=
  I.laid (fun _ _ q => Heap.get?_push_of_some _ q) (Nat.le_refl _) ⟨hz, its, 0, hv, Heap.get?_push_size _ rfl⟩
theorem Inv.fresh (I : Inv X pins σ H s) : H s.heap.objs.size = none := I.hok.fresh (Nat.le_refl _)
theorem Inv.lstM (I : Inv X pins σ H s) (hH : H l = some (.lst xs)) : xs.length ≤ sizeLine ∧ ∃ (its : List Value) (n : Nat), Vals xs its ∧ xs.length = its.length ∧ s.heap.get? l = some { cls := .type "list", data := .seq its.toArray n } := by
  obtain ⟨z, its, n, r, e⟩ := I.hok l _ hH
  exact ⟨z, its, n, r, r.length, e⟩

theorem notLongL {n : Nat} (h : n ≤ sizeLine) : Builtin.List.listTooLong n = false := by
  unfold Builtin.List.listTooLong
  exact decide_eq_false (by omega)
end

section
variable {X : Cx}

/-! ### methods -/
noncomputable def rAppend : V → List V → Hp → VK → Prop := fun x vs H Q => ∃ l xs y, x = .ref l ∧ vs = [y] ∧ H l = some (.lst xs) ∧ xs.length < sizeLine ∧ Q .non (upd H l (.lst (xs ++ [y])))
theorem mt_append : MtM X "list.append" rAppend := by
  intro pins s σ H x vs v us Q I rx rv h
  obtain ⟨l, xs, y, rfl, rfl, hH, hz, q⟩ := h
  cases rx
  obtain ⟨u, rfl, ru⟩ := rv.one
  obtain ⟨z, its, n, r, hl, e⟩ := I.lstM hH
  refine call_meets F.slot_list_append ⟨_, e, rfl⟩ F.entry_list_append (F.args_list_append_2 _ _) (PySem.list_append l its.toArray n u (by rw [List.size_toArray]; omega)) ⟨e, ?_⟩
  refine ⟨.non, _, I.lset (its' := its ++ [u]) hH e (by simp) (r.append (.cons ru .nil)) ?_, rfl, q⟩
  rw [List.length_append, List.length_singleton]
  omega

noncomputable def rExtend : V → List V → Hp → VK → Prop := fun x vs H Q => ∃ l b xs zs, x = .ref l ∧ vs = [.ref b] ∧ H l = some (.lst xs) ∧ H b = some (.lst zs) ∧ xs.length + zs.length ≤ sizeLine ∧ Q .non (upd H l (.lst (xs ++ zs)))
theorem mt_extend : MtM X "list.extend" rExtend := by
  intro pins s σ H x vs v us Q I rx rv h
  obtain ⟨l, b, xs, zs, rfl, rfl, hH, hB, hz, q⟩ := h
  cases rx
  obtain ⟨u, rfl, ru⟩ := rv.one
  cases ru
  obtain ⟨z, its, n, r, hl, e⟩ := I.lstM hH
  obtain ⟨z2, its2, n2, r2, hl2, e2⟩ := I.lstM hB
  have hsz : its.toArray.size + its2.toArray.size ≤ sizeLine := by rw [List.size_toArray, List.size_toArray]; omega
  have hlong : ¬ (!its.toArray.isEmpty && Builtin.List.listTooLong (its.toArray.size + its2.toArray.size)) = true := by
    rw [notLongL hsz, Bool.and_false]
    exact Bool.false_ne_true
  refine call_meets F.slot_list_extend ⟨_, e, rfl⟩ F.entry_list_extend (F.args_list_extend_2 _ _)
    (AutoSeq1.list_extend_list_list_0 l its.toArray n b its2.toArray n2 hlong (by rw [List.size_toArray]; omega) (by omega)) ⟨e, e2, ?_⟩
  refine ⟨.non, _, I.lset (its' := its ++ its2) hH e (by simp) (r.append r2) ?_, rfl, q⟩
  rw [List.length_append]
  omega

noncomputable def rPop : V → List V → Hp → VK → Prop := fun x vs H Q => ∃ l xs y, x = .ref l ∧ vs = [] ∧ H l = some (.lst xs) ∧ xs[xs.length - 1]? = some y ∧ Q y (upd H l (.lst xs.dropLast))
theorem mt_pop : MtM X "list.pop" rPop := by
  intro pins s σ H x vs v us Q I rx rv h
  obtain ⟨l, xs, y, rfl, rfl, hH, hy, q⟩ := h
  cases rx
  have hus := rv.zero
  subst hus
  obtain ⟨z, its, n, r, hl, e⟩ := I.lstM hH
  obtain ⟨u, hu, ru⟩ := r.get hy
  have hy' : its.toArray[its.toArray.size - 1]? = some u := by
    show its.toArray[its.length - 1]? = some u
    rw [← Array.getElem?_toList, ← hl]
    exact hu
  refine call_meets F.slot_list_pop ⟨_, e, rfl⟩ F.entry_list_pop (F.args_list_pop_1 _) (MeetsSeq.list_pop_last l its.toArray n u hy' (by rw [List.size_toArray]; omega)) ⟨e, ?_⟩
  refine ⟨y, _, I.lset (its' := its.dropLast) hH e ?_ r.dropLast ?_, ru, q⟩
  · show its.toArray.eraseIdxIfInBounds (its.toArray.size - 1) = its.dropLast.toArray
    rw [List.size_toArray, List.eraseIdxIfInBounds_toArray, erase_last]
  · rw [List.length_dropLast]
    omega

/-! ### list + list, list += list, list * int -/
noncomputable def rCat : R2 := fun x y H Q => ∃ l b xs zs, x = .ref l ∧ y = .ref b ∧ H l = some (.lst xs) ∧ H b = some (.lst zs) ∧ xs.length + zs.length ≤ sizeLine ∧ ∀ p, H p = none → Q (.ref p) (upd H p (.lst (xs ++ zs)))
theorem op_cat : OpR X (binaryOp .Add) rCat := by
  intro pins s σ H x y v u Q I rx ry h
  obtain ⟨l, b, xs, zs, rfl, rfl, hH, hB, hz, q⟩ := h
  cases rx
  cases ry
  obtain ⟨z, its, n, r, hl, e⟩ := I.lstM hH
  obtain ⟨z2, its2, n2, r2, hl2, e2⟩ := I.lstM hB
  refine PySem.P.add_list e e2 ?_ (by rw [List.size_toArray, List.size_toArray]; omega)
  have ea : its.toArray ++ its2.toArray = (its ++ its2).toArray := by simp
  rw [ea]
  exact ⟨.ref _, _, I.lnew (t' := s.toks) (r.append r2) (by rw [List.length_append]; omega), rfl, q _ I.fresh⟩
/-! ### del xs[i] -/
end

/-! ### xs[a:b] = ys -/
section
variable {prog : Program} {w : World} {A : Around} {E : Value → Shared → Prop} {s : Shared}
set_option maxRecDepth 100000 in
end

section
variable {X : Cx}
end
end L2

namespace Att
open PySem PySem.W PySem.Calls PyProof.Rows

/-! ### the script -/
theorem ints_of_wellAll {P : Params} {h : Heap} : ∀ (ns : List Int) (vs : List Value), WellAll P h vs (ns.map WData.int) → IntsAre vs ns := by
  intro ns
  induction ns with
  | nil =>
    intro vs w
    rw [List.map_nil] at w
    cases w
    exact .nil
  | cons n ns ih =>
    intro vs w
    rw [List.map_cons] at w
    cases w with
    | cons a b =>
      cases a
      exact .cons _ _ (ih _ b)

theorem script_of {l : OpenLaw} {n : Nat} (hn : l.most = some n) {P : Params} {h : Heap} {args : List WData} {vals : List Value}
    (hpre : l.row.toRowW.claim.pre args = true) (hwl : WellAll P h vals args) :
    ∃ a vs ns, vals = [Value.ref a] ∧ args = [WData.list (ns.map WData.int)] ∧ h.get? a = some { cls := .type "list", data := .seq vs.toArray } ∧ IntsAre vs ns ∧ ns.length ≤ n := by
  have hsh : WShape.hasAll [] args [.list .int] = true := (pre_splitW hpre).1
  have hc : l.pre.holds [] { args := args } = true := (pre_splitW hpre).2
  obtain ⟨d, r, rfl, h1, h2⟩ := hasAllW_cons hsh
  obtain rfl := hasAllW_nil h2
  obtain ⟨xs, rfl, h3⟩ := hasW_list h1
  obtain ⟨ns, rfl⟩ := items_int h3
  have hlen : ns.length ≤ n := by
    unfold OpenLaw.pre at hc
    have h4 : (WTm.not (.lt (.lit (.int (n : Int))) (.len (.arg 0)))).holds [] { args := [.list (ns.map .int)] } = true := by
      have h4 := (holds_andW hc).1
      rw [hn] at h4
      exact h4
    have h5 := condW_of h4 (w_not (w_lt w_lit (w_len_list (w_arg rfl))))
    rw [List.length_map] at h5
    refine Nat.le_of_not_lt fun q => ?_
    have q' : (n : Int) < ((ns.length : Nat) : Int) := by omega
    first
      | (rw [decide_eq_true q'] at h5; exact absurd h5 (by decide))
      | (simp at h5; omega)
  cases hwl with
  | cons w1 w2 =>
    cases w2
    cases w1 with
    | list ho hall => exact ⟨_, _, ns, rfl, rfl, ho, ints_of_wellAll ns _ hall, hlen⟩

theorem post_true (l : OpenLaw) (args : List WData) : l.row.toRowW.claim.post args (.bool true) args = true :=
  postW_of (r := l.row.toRowW) (X := (true == true))
    (show WShape.has [] (.bool true) .bool = true by first | rfl | decide | simp [WShape.has, WShape.arms, WShape.armsAll])
    (show (WTm.eq .res (.lit (.bool true))).value [] { args := args, res := some (.bool true), after := args } = some (.bool (true == true)) from w_eq_bool (w_res rfl) w_lit) rfl

/-! ### the attachment: holds_open's last premise (the goal 'hc' behind k_head) from a wpAny of the law's body -/
/-- the same from a codeAny of the CALL (for a layer whose function contracts speak of calls) -/
theorem attach_call {l : OpenLaw} {n : Nat} {q : Program} {loose : List Str} {XP : (Str → Option Value) → Heap → Prop} {YP : World → Heap → Prop} {d : DefRec}
    (hn : l.most = some n) (hdf : d.params.defaults = [])
    (call : ∀ (w : World) (s₀ s₁ : Shared) (mg mb : Str → Option Value) (fa : Addr) (o : Obj) (pm cd doc : Value) (a : Addr) (vs : List Value) (ns : List Int),
      Ground q loose [] XP w s₀ mg mb s₁.heap → YP w s₁.heap →
      s₁.heap.get? fa = some o → o.data = .func (docDef d.name d.params d.body d.scope pm cd doc) → s₁.heap.CodeRec cd d.name → mg d.name = some (.ref fa) →
      s₁.heap.get? a = some { cls := .type "list", data := .seq vs.toArray } → IntsAre vs ns → ns.length ≤ n → s₁.gens = #[] →
      codeAny (model l.prog w) callerA (.call (.ref fa) ⟨[.ref a], []⟩) (fun r s' => r = .ok (.ret (.bool true)) ∧ OldK s₁.heap s'.heap ∧ s'.os = s₁.os ∧ AllBare s'.gens) s₁) :
    WalkO q loose XP YP l.row.toRowW d [] (fun f vs => PySem.call f vs) := by
  intro w s₀ s₁ mg mb G Y fa o pm cd doc dV kV ho hd hcd hD hmg hg args vals as hpre hlay hrd hwl hlo
  obtain rfl : dV = .none := Dflts.none hD hdf
  obtain rfl : kV = .none := Dflts.noKw hD
  obtain ⟨a, vs, ns, rfl, rfl, hobj, hints, hlen⟩ := script_of hn hpre hwl
  refine enter_call (codeAny_mono (call w s₀ s₁ mg mb fa o pm cd doc a vs ns G Y ho (fd_plain hd) hcd hmg hobj hints hlen hg) fun r s' hq => ?_)
  obtain ⟨rfl, h2, h3, h4⟩ := hq
  exact ⟨.inl ⟨.bool true, .bool true, [], rfl, fun _ => rfl, .bool true, post_true l _, fun _ => ⟨List.Pairwise.nil, fun _ hm => (nomatch hm)⟩⟩, h2, h3, h4⟩

/-! ### rules over ANY heap (no ledger) from facts about the written part K: the library's own take a ledger (News) for what they write -/
section
variable {prog : Program} {w : World} {A : Around} {E : Value → Shared → Prop} {s : Shared} {K : Frag}

/-! the whole heap as the ledger: makes every rule that writes through a ledger a rule over any heap -/
noncomputable def ledger (h : Heap) (L d : Addr) : List (Addr × Obj) := (List.range h.objs.size).filterMap fun a => if a = L ∨ a = d then none else (h.get? a).map fun o => (a, o)
end
end Att

namespace L2
open PySem PySem.Spec PyProof.Rows

theorem vals_ints : ∀ {vs : List Value} {ns : List Int}, IntsAre vs ns → Vals (ns.map V.int) vs
  | _, _, .nil => .nil
  | _, _, .cons n t h => .cons ⟨t, rfl⟩ (vals_ints h)

/-- nothing is tracked but the script, known to the object (or it is an object of the module) -/
noncomputable def Only (H : Hp) : Prop := ∀ b, H b = none ∨ ∃ o xs, H b = some (.frz o (.lst xs))

/-- THE HEAD: the law's promise, at the heap behind the top. F, the promise of the law's def, may use that base is part of the heap (so K.In base, base.Ns mainGlobals mg stand in Mod) -/
theorem law_call {P : Program} {w : World} {K : PySem.W.Frag} {mg mb : Str → Option Value} {CX : CXT} {k : Nat} {fa a : Addr} {fd : FuncData} {x : Str} {sp : Sp} {s₁ : Shared} {vs : List Value} {ns : List Int}
    (KX : K.In s₁.heap) (hns : s₁.heap.Ns mainGlobals mg) (hb : s₁.heap.Ns builtinsNs mb) (hbb : ∀ x : Str, x ≠ "__name__" → mb x = bootBuiltins x) (hlim : s₁.heap.NoLimit) (hg : s₁.gens = #[])
    (ha : s₁.heap.get? a = some { cls := .type "list", data := .seq vs.toArray }) (hi : IntsAre vs ns) (hl : ns.length ≤ sizeLine) (hr : Room k callerA)
    (F : ∀ base : Heap, K.In base → base.Ns mainGlobals mg → FnOk P w K mg base CX k fa fd [x] sp) (hbind : ∀ (s : Shared) (u : Value), BindsTo s fd ⟨[u], []⟩ [(x, u)])
    (hsp : ∀ H : Hp, Only H → SqL K H a (ns.map V.int) → sp [.ref a] H (fun v _ => v = .bl true) fun _ _ _ => False)
    (hCX : ∀ H e s', CX [] H s₁ (fun _ _ _ => False) e s' → False) :
    codeAny (model P w) callerA (.call (.ref fa) ⟨[.ref a], []⟩) (fun r s' => r = .ok (.ret (.bool true)) ∧ OldK s₁.heap s'.heap ∧ s'.os = s₁.os ∧ AllBare s'.gens) s₁ := by
  have rv := vals_ints hi
  have lenV := hi.length
  -- from an abstract heap in which nothing but the script may be tracked
  have core : ∀ H : Hp, Only H → SqL K H a (ns.map V.int) → HOk P w H s₁.heap → (∀ b, H b ≠ none → b = a) → (H a ≠ none → K.lookup a = none) →
      codeAny (model P w) callerA (.call (.ref fa) ⟨[.ref a], []⟩) (fun r s' => r = .ok (.ret (.bool true)) ∧ OldK s₁.heap s'.heap ∧ s'.os = s₁.os ∧ AllBare s'.gens) s₁ := by
    intro H hO hS hok hA hK
    have base_of : ∀ {b : Addr} {o : Obj}, s₁.heap.get? b = some o → H b = none → (hidT s₁.heap H).get? b = some o := fun e n => hidT_get e n
    have noA : ∀ {b : Addr} {o : Obj} {es : Array DictEntry} {ep : Nat}, s₁.heap.get? b = some o → o.data = .dict es ep → H b = none := fun {b o es ep} e d => by
      cases q : H b with
      | none => rfl
      | some u =>
        have e' : b = a := hA b (by rw [q]; simp)
        subst e'
        rw [ha] at e; cases e
        have d' : Data.seq vs.toArray _ = Data.dict es ep := d
        cases d'
    have nsK : ∀ {b : Addr} {m : Str → Option Value}, s₁.heap.Ns b m → (hidT s₁.heap H).Ns b m := fun {b m} ⟨o, es, ep, e, d, r⟩ => ⟨o, es, ep, base_of e (noA e d), d, r⟩
    have hKb : K.In (hidT s₁.heap H) := fun b o e => base_of (KX b o e) (by
      cases q : H b with
      | none => rfl
      | some u =>
        have e' : b = a := hA b (by rw [q]; simp)
        subst e'
        rw [hK (by rw [q]; simp)] at e; cases e)
    have hM : Mod K mg (hidT s₁.heap H) := ⟨hKb, nsK hns, ⟨mb, nsK hb, hbb⟩, let ⟨mc, h1, h2⟩ := hlim; ⟨mc, nsK h1, h2⟩⟩
    have e0 : Env0 P w K mg (hidT s₁.heap H) callerA [] s₁ H := ⟨rfl, hM, fun b o e => of_hidT e, Nat.le_of_eq (hidT_size _ _), trivial, fun b hb => absurd (show b ∈ ([] : List Addr) from hb) (by simp), hok, .of_eq hg⟩
    refine codeAny_mono ((F _ hKb (nsK hns)).run callerA [] s₁ H ⟨[.ref a], []⟩ [.ref a] [.ref a] _ _ hr e0 (hbind s₁ (.ref a)) (.cons rfl .nil) (hsp H hO hS)) fun r s' h => ?_
    cases r with
    | error e => exact (hCX H e s' h).elim
    | ok fl =>
      cases fl with
      | next => exact False.elim h
      | brk => exact False.elim h
      | cont => exact False.elim h
      | ret u =>
        obtain ⟨v, H', os, bare, un, hok', r', q⟩ := h
        have q' : v = .bl true := q
        subst q'
        obtain rfl : u = Value.bool true := r'
        refine ⟨rfl, OldK.of_keep fun b o e => ?_, os, bare⟩
        cases q : H b with
        | none => exact un.keep b o e q (by intro z; exact absurd (show b ∈ ([] : List Addr) from z) (by simp)) (by simp)
        | some u =>
          rcases hO b with z | ⟨ob, xs, z⟩
          · rw [q] at z; cases z
          · have z2 := un.frzs b ob _ z
            obtain ⟨e1, _⟩ := hok b _ z
            obtain ⟨e2, _⟩ := hok' b _ z2
            rw [e] at e1; cases e1
            exact e2
  cases hk : K.lookup a with
  | some o =>
    -- the script is one of the module's own objects
    have e := KX a o hk
    rw [ha] at e
    cases e
    refine core (fun _ => none) (fun _ => .inl rfl) (.inr ⟨_, vs.toArray, _, hk, rfl, rfl, rfl, by rw [List.size_toArray, lenV]; exact hl, by simpa using rv⟩) (fun b u z => by have z' : (none : Option HO) = some u := z; cases z') (fun b z => absurd rfl z) fun z => absurd rfl z
  | none =>
    refine core (fun b => if b = a then some (.frz { cls := .type "list", data := .seq vs.toArray } (.lst (ns.map V.int))) else none) (fun b => ?_) (.inl (.inr ⟨{ cls := .type "list", data := .seq vs.toArray }, if_pos rfl⟩)) (fun b u z => ?_) (fun b z => ?_) fun _ => hk
    · by_cases hb : b = a
      · exact .inr ⟨_, _, if_pos hb⟩
      · exact .inl (if_neg hb)
    · by_cases hb : b = a
      · have z' := (if_pos hb).symm.trans z
        cases z'
        subst hb
        exact ⟨ha, by rw [List.length_map]; exact hl, vs, _, rv, ha⟩
      · have z' := (if_neg hb).symm.trans z
        cases z'
    · by_cases hb : b = a
      · exact hb
      · exact absurd (if_neg hb) z
end L2

namespace L2
open PySem PySem.Spec PyProof.Rows

noncomputable abbrev KOf {K : PySem.W.Frag} {h : Heap} (_ : K.In h) : PySem.W.Frag := K

/-- the goal that k_head leaves (case hc), from the law's promise. F gives the function object fd (K's own) once, then the promise over every base -/
theorem walk_of {l : PySem.W.OpenLaw} {n k : Nat} {q : Program} {loose : List Str} {XP : (Str → Option Value) → Heap → Prop} {YP : World → Heap → Prop} {d : DefRec} {K : Params → PySem.W.Frag} {CX : World → CXT} {sp : World → Sp} {x : Str}
    (hn : l.most = some n) (hn2 : n ≤ sizeLine) (hdf : d.params.defaults = []) (hr : Room k callerA)
    (hY : ∀ (w : World) (h : Heap), YP w h → (K w.params).In h)
    (F : ∀ (w : World) (mg : Str → Option Value) (fa : Addr) (h : Heap), (K w.params).In h → h.Ns mainGlobals mg → mg d.name = some (.ref fa) →
      ∃ fd : FuncData, (∀ (s : Shared) (u : Value), BindsTo s fd ⟨[u], []⟩ [(x, u)]) ∧
        ∀ base : Heap, (K w.params).In base → base.Ns mainGlobals mg → FnOk l.prog w (K w.params) mg base (CX w) k fa fd [x] (sp w))
    (hsp : ∀ (w : World) (H : Hp) (a : Addr) (ns : List Int), ns.length ≤ n → Only H → SqL (K w.params) H a (ns.map V.int) → sp w [.ref a] H (fun v _ => v = .bl true) fun _ _ _ => False)
    (hCX : ∀ (w : World) (H : Hp) (s : Shared) (e : Value) (s' : Shared), CX w [] H s (fun _ _ _ => False) e s' → False) :
    PySem.W.WalkO q loose XP YP l.row.toRowW d [] (fun f vs => PySem.call f vs) := by
  refine Att.attach_call hn hdf fun w s₀ s₁ mg mb fa o pm cd doc a vs ns G Y ho hd hcd hmg hobj hints hlen hg => ?_
  have KX := hY w _ Y
  obtain ⟨fd, hb, hF⟩ := F w mg fa _ KX G.T.g hmg
  exact law_call KX G.T.g G.T.b G.T.builtins G.T.nolimit hg hobj hints (Nat.le_trans hlen hn2) hr hF hb (fun H hO hS => hsp w H a ns hlen hO hS) fun H e s' => hCX w H s₁ e s'
end L2

/- THE LAST THEOREM (shape; LID, My.* are yours):
   My.Adr: a structure of the addresses that your layer names (classes, functions); My.Txt K t: a structure (Prop) of the equations over K;
   My.txt_mk : {K} {implicit addresses ..} (e1 : nsIn K mainGlobals "law" = some (some (.ref f))) (e2 : K.lookup f = some ⟨oc, od, .func (fnOf "law" "law" params body scope dV kV doc pm an cdv ct), sl⟩) (e3 : codeIn K cdv "law" = true) .. : ∃ t, My.Txt K t

set_option maxRecDepth 100000 in
set_option maxHeartbeats 0 in
theorem PySem.Challenge.cw_LID_holds : PySem.Challenge.rw_LID.Holds := by
  w_on; o_law; k_head; (case hw => w_witness2)
  k_fill
  refine L2.walk_of (l := PySem.Challenge.rw_LID) (n := 63) (k := 40) (x := "script") (CX := fun w => ..) (sp := fun _ => My.sp_law) rfl (by decide) rfl ⟨rfl, by decide, by decide⟩ (fun w h Y => PySem.W.kIn_of Y) ?F ?S ?C
  case F =>
    intro w mg fa h KX G hmg
    have T : ∃ t, My.Txt (L2.KOf KX) t := by
      dsimp only [L2.KOf]                          -- K must stand as «<heap const> w.params» for k_is
      refine' My.txt_mk ?e1 ?e2 ?e3 ..
      (case e1 => PySem.W.k_is)                    -- in the order: a name -> its address -> its object -> its parts
      (case e2 => PySem.W.k_is)
      ..
    obtain ⟨t, T⟩ := T
    have e0 := hmg.symm.trans (PySem.W.mg_of KX G T.law)
    cases e0                                       -- fa is the law's own address
    exact ⟨_, fun s u => .of_eq rfl, fun base kb nb => My.law_fn T kb nb⟩     -- if «.of_eq rfl» comes too early: refine' ⟨_, ?b, fun base kb nb => My.law_fn T kb nb⟩; exact fun s u => .of_eq rfl
  case S => exact fun w H a ns hl hO hS => ..
  case C => exact ..
(the tactic k_is has no namespace: write k_is) -/

/-! SHORT WORDS over the layer: a def of the text, its body, what a loop and a test want. -/
namespace L2
open PySem PySem.Spec PyProof.Rows

/-! ### the text by places -/
/-- the j-th statement of a class's body -/
noncomputable def inClass (s : Stmt) (j : Nat) : Stmt := match s with
  | .ClassDef _ _ _ body _ _ _ _ _ _ _ => body.getD j (.Pass ⟨0, 0, 0, 0⟩)
  | _ => .Pass ⟨0, 0, 0, 0⟩
noncomputable def defArgs (s : Stmt) : Arguments := match s with
  | .FunctionDef _ a _ _ _ _ _ _ _ _ => a
  | _ => { posonlyargs := [], args := [], vararg := none, kwonlyargs := [], kw_defaults := [], kwarg := none, defaults := [] }
noncomputable def defBody (s : Stmt) : List Stmt := match s with
  | .FunctionDef _ _ b _ _ _ _ _ _ _ => b
  | _ => []
noncomputable def defScope (s : Stmt) : Scope := match s with
  | .FunctionDef _ _ _ _ _ _ sc _ _ _ => sc
  | _ => { kind := .function, names := [], isGenerator := false, isCoroutine := false }

/-! ### no exception leaves a def -/
noncomputable abbrev CX0 : CXT := fun _ _ _ _ _ _ => False
noncomputable abbrev E0 : XK := fun _ _ _ => False
/-! ### a def (or method) of the text as it stands behind the top -/
structure Fun (K : PySem.W.Frag) (x qual : Str) (st : Stmt) (f : Addr) (fd : FuncData) : Prop where
  ex : ∃ (oc : Value) (od : Option Addr) (kV doc pm : Value) (an : Option Addr) (cdv ct : Value) (osl : Array (Option Value)),
    fd = PySem.W.fnOf x qual (defArgs st) (defBody st) (defScope st) .none kV doc pm an cdv ct ∧ K.lookup f = some ⟨oc, od, .func fd, osl⟩ ∧ PySem.W.codeIn K cdv qual = true
  kp : PySem.W.keepIn K (.ref f) = true
section
variable {P : Program} {w : World} {K : PySem.W.Frag} {mg : Str → Option Value} {base : Heap}
/-- THE RULE for a def: its body as a term of rules, and the reading of that term -/
theorem Fun.ok {x qual : Str} {st : Stmt} {f : Addr} {fd : FuncData} {N ps : List Str} {k : Nat} {sp : Sp} (F : Fun K x qual st f fd) (S : FnScope N ps (defScope st)) (len : ∀ vs H Q E, sp vs H Q E → vs.length = ps.length)
    (hbody : ∀ (cdv : Value) (A : Around) (outer : List Env) (s : Shared) (H : Hp) (vs : List V) (Q : VK) (E : XK), Room k (A.deeper (envOfC qual (defScope st) s.heap.objs.size f cdv)) → sp vs H Q E →
      ∃ t, PSs (cxOf CX0 P w K mg base N qual (defScope st) f cdv A outer s H E).nox (defBody st) t ∧ t { nx := fun _ H' => Q .non H', rt := Q } (start N vs) H) : FnOk P w K mg base CX0 (k + 1) f fd ps sp := by
  obtain ⟨oc, od, kV, doc, pm, an, cdv, ct, osl, rfl, lk, hcd⟩ := F.ex
  refine fn_of lk hcd S len fun A outer s H vs Q E hr hsp => ?_
  obtain ⟨t, h, q⟩ := hbody cdv A outer s H vs Q E hr hsp
  exact ⟨t, h.nox, q⟩
/-- how its arguments bind (no defaults): h is «fun _ _ _ _ _ _ us hl => match us, hl with | [_, _], _ => rfl», one _ a parameter -/
theorem Fun.binds {x qual : Str} {st : Stmt} {f : Addr} {fd : FuncData} {ps : List Str} (F : Fun K x qual st f fd)
    (h : ∀ (kV doc pm : Value) (an : Option Addr) (cdv ct : Value) (us : List Value), us.length = ps.length → bindArgs (PySem.W.fnOf x qual (defArgs st) (defBody st) (defScope st) .none kV doc pm an cdv ct) ⟨us, []⟩ = pure (ps.zip us)) : Binds K fd ps [] := by
  obtain ⟨oc, od, kV, doc, pm, an, cdv, ct, osl, rfl, lk, hcd⟩ := F.ex
  exact .all (h kV doc pm an cdv ct)
theorem fun_mk {x qual : Str} {st : Stmt} {f : Addr} {oc : Value} {od an : Option Addr} {osl : Array (Option Value)} {kV doc pm cdv ct : Value} (l : K.lookup f = some ⟨oc, od, .func (PySem.W.fnOf x qual (defArgs st) (defBody st) (defScope st) .none kV doc pm an cdv ct), osl⟩)
    (c : PySem.W.codeIn K cdv qual = true) (k : PySem.W.keepIn K (.ref f) = true) : Fun K x qual st f (PySem.W.fnOf x qual (defArgs st) (defBody st) (defScope st) .none kV doc pm an cdv ct) := ⟨⟨oc, od, kV, doc, pm, an, cdv, ct, osl, rfl, l, c⟩, k⟩
end
/-! ### expressions in short: the name that stands in the i-th slot -/
section
variable {X : Cx}
theorem pv (i : Nat) {x : Str} {pos : Pos} (hN : X.N[i]? = some x := by rfl) (hv : Vis X.env.scope x := by first | exact Or.inl rfl | exact Or.inr (Or.inl rfl) | exact Or.inr (Or.inr rfl)) (hd : (x == ("__debug__" : Str)) = false := by decide)
    (hcd : (x == ("__classdict__" : Str)) = false := by decide) : PE X (.Name x pos) (tVar i) := pe_var hN hv hd hcd
end

/-! ### tests -/
theorem iteF {A B : Prop} (h : B) : if false = true then A else B := by
  rw [if_neg Bool.false_ne_true]
  exact h
theorem iteT {A B : Prop} (h : A) : if true = true then A else B := by
  rw [if_pos rfl]
  exact h
theorem ite2 {c A B : Prop} [Decidable c] (h1 : c → A) (h2 : ¬ c → B) : if c then A else B := by
  by_cases h : c
  · rw [if_pos h]
    exact h1 h
  · rw [if_neg h]
    exact h2 h
theorem iteNS {c A B : Prop} [Decidable c] (hc : c) (h : B) : if (!decide c) = true then A else B := by
  rw [decide_eq_true hc]
  exact iteF h

/-! ### heaps -/
/-- all that was tracked is as it was -/
noncomputable def Same (H H' : Hp) : Prop := ∀ b o, H b = some o → H' b = some o
theorem Same.refl (H : Hp) : Same H H := fun _ _ h => h
theorem Same.trans {H H1 H2 : Hp} (a : Same H H1) (b : Same H1 H2) : Same H H2 := fun c o h => b c o (a c o h)
theorem Same.free {H H' : Hp} (e : Same H H') {l : Addr} (h : H' l = Option.none) : H l = Option.none := by
  cases q : H l with
  | none => rfl
  | some o =>
    rw [e l o q] at h
    cases h
theorem Same.seq {K : PySem.W.Frag} {H H' : Hp} {a : Addr} {xs : List V} (e : Same H H') (h : SqL K H a xs) : SqL K H' a xs := by
  rcases h with (h | ⟨o, h⟩) | h
  · exact .inl (.inl (e _ _ h))
  · exact .inl (.inr ⟨o, e _ _ h⟩)
  · exact .inr h

end L2

set_option Elab.async false
set_option linter.all false
set_option maxRecDepth 100000
set_option maxHeartbeats 4000000
/-! Own rules over the hand layer: // by any small divisor, sum, isinstance, texts (loop, slice, join, times), comprehensions. -/
namespace L2
open PySem PySem.Spec PyProof.Rows
section
variable {X : Cx}

/-! ### // by a divisor of any usual size -/
noncomputable def CDivL (i j : Int) : Prop := 0 < j ∧ j.natAbs.log2 < 9000
theorem op_fdivL : OpR X (binaryOp .FloorDiv) (rI CDivL fun i j => .int (i / j)) := opI fun i j _ _ _ _ _ hc q => by
  have h1 : (0 : Int) < j := hc.1
  exact floordiv_int (by omega) (by rw [Int.fdiv_eq_ediv_of_nonneg i (by omega)]; exact q) (.inl (PyProof.noPylong_of_log2 hc.2))

/-! ### sum of a list of ints -/
theorem call_sum (hc : X.calm = true) : CallR X (.builtin "sum") (fun xs H Q => ∃ (p : Addr) (ns : List Int), xs = [.ref p] ∧ SqL X.K H p (ns.map V.int) ∧ Q (.int ns.sum) H) := by
  intro pins s σ H xs us Q I r h
  obtain ⟨p, ns, rfl, hl, q⟩ := h
  obtain ⟨u, rfl, ru⟩ := vals1 r
  cases ru
  obtain ⟨its, r', pl, hz⟩ := I.list hl
  have hi : IntsAre its ns := intsAre_of r'
  have hall : AllInts its.toArray := hi.allInts
  obtain ⟨ys, e⟩ := hall.items
  have hl' : s.heap.IsList p (intItems ys) := by rw [← e]; exact pl.isList
  refine sum_intListG (I.ok.hd hc) hl' fun h' tk t' hk => ?_
  have e2 : preSum (numAt ys) ys.size = ns.sum := by
    have e3 : numsOf (intItems ys).toList = ns := by rw [← e]; exact hi.numsOf
    rw [preSum_eq, List.take_of_length_le (by simp), ← e3, nums_intItems]
  rw [e2]
  exact ⟨.int ns.sum, H, I.kept hk, ⟨_, rfl⟩, q⟩

/-! ### isinstance of one class -/
theorem call_isinst : CallR X (.builtin "isinstance") (fun xs H Q => ∃ x c cv t b, xs = [x, c] ∧ (∀ u, RelV c u → u = cv) ∧ TyOf X.K H x t ∧ PySem.W.kitOne X.K t cv = some b ∧ Q (.bl b) H) := by
  intro pins s σ H xs us Q I r h
  obtain ⟨x, c, cv, t, b, rfl, hcv, ty, e, q⟩ := h
  obtain ⟨u, w', rfl, r1, r2⟩ := vals2 r
  rw [hcv w' r2]
  exact isinst_ok I r1 ty e fun tk => ⟨.bl b, H, I.tok _, rfl, q⟩
theorem relTy {n : String} : ∀ u, RelV (.ty n) u → u = Value.type n := fun _ h => h

/-! ### texts -/
end

/-! ### comprehensions -/
theorem forIn_collect {α β : Type} {l : List α} {f : α → β → Sem (ForInStep β)} (g : β → α → β) (c : β) (h : ∀ x ∈ l, ∀ c, f x c = pure (.yield (g c x))) :
    forIn l c f = pure (l.foldl g c) := by
  induction l generalizing c with
  | nil => rfl
  | cons x l ih =>
    rw [List.forIn_cons, h x List.mem_cons_self, pure_bind]
    exact ih _ fun y hy => h y (List.mem_cons_of_mem _ hy)
noncomputable def clOf (cells : List (Str × Addr)) (names : List (Str × NameKind)) (acc : List (Str × Addr)) : List (Str × Addr) :=
  names.foldl (fun cs y => if y.2 == .free then (y.1, (cells.lookup y.1).getD 0) :: cs else cs) acc
theorem closure_eq {scope : Scope} {env : Env} (h : ∀ y ∈ scope.names, y.2 = .free → ∃ c, env.cells.lookup y.1 = some c) : closureFor scope env = pure (clOf env.cells scope.names []) := by
  simp only [closureFor]
  rw [forIn_collect (fun cs y => if y.2 == .free then (y.1, (env.cells.lookup y.1).getD 0) :: cs else cs) [] fun x hx c => ?_]
  · rfl
  · obtain ⟨n, k⟩ := x
    by_cases hk : k = .free
    · subst hk
      obtain ⟨a, ea⟩ := h (n, .free) hx rfl
      have ea' : env.cells.lookup n = some a := ea
      simp only [beq_self_eq_true, if_true, cellOf, ea', pure_bind, Option.getD_some]
    · have hb : (k == NameKind.free) = false := by simpa using hk
      simp only [hb, Bool.false_eq_true, if_false]
theorem lookup_mem {α : Type} : ∀ {l : List (Str × α)} {x : Str} {c : α}, l.lookup x = some c → (x, c) ∈ l
  | [], _, _, h => by simp at h
  | (y, d) :: r, x, c, h => by
    rw [List.lookup_cons] at h
    cases hx : x == y with
    | true =>
      rw [hx] at h
      have e : x = y := by simpa using hx
      subst e
      cases h
      exact List.mem_cons_self
    | false =>
      rw [hx] at h
      exact List.mem_cons_of_mem _ (lookup_mem h)
theorem mem_lookup {α : Type} : ∀ {l : List (Str × α)} {x : Str} {c : α}, (x, c) ∈ l → ∃ d, l.lookup x = some d
  | [], _, _, h => by cases h
  | (y, d) :: r, x, c, h => by
    rw [List.lookup_cons]
    cases hx : x == y with
    | true => exact ⟨d, rfl⟩
    | false =>
      rcases List.mem_cons.mp h with e | h
      · cases e; simp at hx
      · exact mem_lookup h
theorem clOf_mem {cells : List (Str × Addr)} : ∀ {names : List (Str × NameKind)} {acc : List (Str × Addr)} {p : Str × Addr}, p ∈ clOf cells names acc ↔ p ∈ acc ∨ ((p.1, NameKind.free) ∈ names ∧ p.2 = (cells.lookup p.1).getD 0)
  | [], acc, p => by simp [clOf]
  | (n, k) :: r, acc, p => by
    show p ∈ clOf cells r (if k == .free then (n, (cells.lookup n).getD 0) :: acc else acc) ↔ _
    rw [clOf_mem (names := r)]
    by_cases hk : k = .free
    · subst hk
      simp only [beq_self_eq_true, if_true, List.mem_cons]
      constructor
      · rintro ((rfl | h) | h)
        · exact .inr ⟨.inl rfl, rfl⟩
        · exact .inl h
        · exact .inr ⟨.inr h.1, h.2⟩
      · rintro (h | ⟨h | h, e⟩)
        · exact .inl (.inr h)
        · obtain ⟨a, b⟩ := p
          cases h
          exact .inl (.inl (by rw [show b = _ from e]))
        · exact .inr ⟨h, e⟩
    · have hb : (k == NameKind.free) = false := by simpa using hk
      simp only [hb, Bool.false_eq_true, if_false, List.mem_cons]
      constructor
      · rintro (h | h)
        · exact .inl h
        · exact .inr ⟨.inr h.1, h.2⟩
      · rintro (h | ⟨h | h, e⟩)
        · exact .inl h
        · cases h; exact absurd rfl hk
        · exact .inr ⟨h, e⟩
theorem relabel_mem {scope : Scope} {env : Env} {x : Str} {k : NameKind} (h : (relabel scope env).names.lookup x = some k) : ∃ k', (x, k') ∈ scope.names ∧ (k' = k ∨ (k' = .free ∧ k = .cell)) := by
  have m := lookup_mem h
  unfold relabel at m
  obtain ⟨⟨n, k'⟩, hm, e⟩ := List.mem_map.mp m
  dsimp only at e
  split at e
  · rename_i hc
    rw [Bool.and_eq_true, Bool.and_eq_true] at hc
    have e1 : n = x := congrArg Prod.fst e
    have e2 : NameKind.cell = k := congrArg Prod.snd e
    subst e1 e2
    exact ⟨k', hm, .inr ⟨by simpa using hc.1.1, rfl⟩⟩
  · have e1 : n = x := congrArg Prod.fst e
    have e2 : k' = k := congrArg Prod.snd e
    subst e1 e2
    exact ⟨k', hm, .inl rfl⟩

/-- the context of a comprehension's block -/
noncomputable def subCx (X : Cx) (scope : Scope) (N : List Str) (cl : List (Str × Addr)) (C : Addr) (s : Shared) (H : Hp) (fp : List Addr) (xe : Value → Shared → Prop) : Cx :=
  { X with N := N, s₀ := s, H₀ := H, env := compEnvC scope cl C X.env, outer := X.stack, stack := X.stack, ex := fp, fn := fun _ => false, pn := [], xe := xe }
/-- which names of the block are the def's (and where they stand there) -/
inductive Caps (X : Cx) (scope : Scope) : List Str → List (Option Nat) → Prop where
  | nil : Caps X scope [] []
  | own {x : Str} {N : List Str} {ix : List (Option Nat)} (r : Caps X scope N ix) : Caps X scope (x :: N) (none :: ix)
  | cap {x : Str} {j : Nat} {N : List Str} {ix : List (Option Nat)} (h1 : X.N[j]? = some x) (h2 : X.env.kindOf x = some .cell) (h3 : (relabel scope X.env).names.lookup x = some .cell) (r : Caps X scope N ix) : Caps X scope (x :: N) (some j :: ix)
noncomputable def capS (ix : List (Option Nat)) (σ : St) : St := ix.map fun o => match o with
  | none => none
  | some j => (σ[j]?).getD none
theorem Caps.get {X : Cx} {scope : Scope} {σ : St} : ∀ {N : List Str} {ix : List (Option Nat)}, Caps X scope N ix → ∀ (i : Nat) (x : Str) (v : V), N[i]? = some x → (capS ix σ)[i]? = some (some v) →
    ∃ j : Nat, X.N[j]? = some x ∧ σ[j]? = some (some v) ∧ X.env.kindOf x = some .cell ∧ (relabel scope X.env).names.lookup x = some .cell
  | _, _, .nil, i, x, v, h, _ => by simp at h
  | _, _, .own r, 0, x, v, _, h => by simp [capS] at h
  | _, _, .own r, i + 1, x, v, h1, h2 => r.get i x v (by simpa using h1) (by simpa [capS] using h2)
  | _, _, .cap (j := j) e1 e2 e3 r, 0, x, v, h1, h2 => by
    simp at h1
    subst h1
    refine ⟨j, e1, ?_, e2, e3⟩
    simp only [capS, List.map_cons, List.getElem?_cons_zero, Option.some.injEq] at h2
    cases q : σ[j]? with
    | none => rw [q] at h2; cases h2
    | some o => rw [q] at h2; simp only [Option.getD_some] at h2; rw [h2]
  | _, _, .cap e1 e2 e3 r, i + 1, x, v, h1, h2 => r.get i x v (by simpa using h1) (by simpa [capS] using h2)
theorem Caps.length {X : Cx} {scope : Scope} {N : List Str} {ix : List (Option Nat)} (h : Caps X scope N ix) : ix.length = N.length := by
  induction h with
  | nil => rfl
  | own _ ih => simp [ih]
  | cap _ _ _ _ ih => simp [ih]
/-- a store that knows at least as much -/
noncomputable def Ext (a b : St) : Prop := b.length = a.length ∧ ∀ (i : Nat) v, a[i]? = some (some v) → b[i]? = some (some v)
theorem Ext.set {a : St} {i : Nat} {v : V} (h : a[i]? = some none) : Ext a (a.set i (some v)) := by
  refine ⟨by simp, fun j w e => ?_⟩
  by_cases hj : j = i
  · subst hj; rw [h] at e; cases e
  · rw [List.getElem?_set_ne (Ne.symm hj)]; exact e
/-- the tests of a comprehension -/
noncomputable def PTs (X : Cx) (ifs : List Expr) (t : TT) : Prop :=
  ∀ (pins : List (Addr × Obj)) (s : Shared) (σ : St) (H : Hp) (Q : Bool → Hp → Prop), Inv X pins σ H s → t σ H Q →
    wpAny (model X.prog X.w) X.A (forIn ifs true fun c r => if r = true then do let ok ← isTrue c X.env (eval c X.env); pure (ForInStep.yield ok) else pure (ForInStep.yield r)) (TP X pins σ Q) X.xe s
noncomputable def ttNil : TT := fun _ H Q => Q true H
theorem pts_nil {X : Cx} : PTs X [] ttNil := fun pins s σ H Q I h => wpAny_tests_nil ⟨H, I, h⟩
theorem pts_one {X : Cx} {c : Expr} {t : TT} (h : PT X c t) : PTs X [c] t := fun pins s σ H Q I q => wpAny_tests_one (h pins s σ H Q I q)

/-- the turns of a comprehension: W is what holds between two of them -/
noncomputable def CompW (J : It) (g : TG) (tt : TT) (te : TE) (σ0 : St) (D : Addr) (Q : VK) (H1 : Hp) : Prop := ∃ W : Nat → Nat → List V → Hp → Prop, (∃ m, W 0 m [] (upd H1 D (.lst []))) ∧ ∀ i m ys H, W i m ys H →
  (J.stop i H ∧ Q (.ref D) H) ∨ (J.go i H ∧ ∀ x H', J.yld i H x H' → g x σ0 H' fun σ2 H2 => Ext σ0 σ2 ∧ tt σ2 H2 fun b H3 =>
    if b = true then te σ2 H3 fun v H4 => H4 D = some (.lst ys) ∧ ys.length < sizeLine ∧ ∃ m', m' < m ∧ W (i + 1) m' (ys ++ [v]) (upd H4 D (.lst (ys ++ [v]))) else ∃ m', m' < m ∧ W (i + 1) m' ys H3)
noncomputable def tComp (wi : TI) (g : TG) (tt : TT) (te : TE) (ix : List (Option Nat)) : TE := fun σ H Q => wi σ H fun J H1 => ∀ D, H1 D = none → CompW J g tt te (capS ix σ) D Q H1

section
variable {prog : Program} {w : World} {A : Around} {R : Result → Shared → Prop} {s : Shared}
theorem comp_loop {elt target iter : Expr} {ifs : List Expr} {scope : Scope} {pos : Pos} {it acc : Value} {env : Env} (I : Nat → Shared → Prop)
    (turn : ∀ n s, I n s → wpAny (model prog w) A (pyNext it) (fun r s₁ => match r with
      | none => R (.ok .next) s₁
      | some v => wpAny (model prog w) A (letOwnedTupleGo target it v) (fun _ s₁' => wpAny (model prog w) A (assign target env v) (fun _ s₂ =>
          wpAny (model prog w) A (forIn ifs true fun c r => if r = true then do let ok ← isTrue c env (eval c env); pure (ForInStep.yield ok) else pure (ForInStep.yield r)) (fun ok s₃ =>
            if ok = true then wpAny (model prog w) A (eval elt env) (fun x s₄ =>
              wpAny (model prog w) A (call (.builtin "list.append") [acc, x]) (fun _ s₅ => ∃ m, m < n ∧ I m s₅) (notedBy (model prog w) A env fun e s' => R (.error e) s') s₄) (notedBy (model prog w) A env fun e s' => R (.error e) s') s₃
            else ∃ m, m < n ∧ I m s₃) (notedBy (model prog w) A env fun e s' => R (.error e) s') s₂) (notedBy (model prog w) A env fun e s' => R (.error e) s') s₁') (notedBy (model prog w) A env fun e s' => R (.error e) s') s₁) (notedBy (model prog w) A env fun e s' => R (.error e) s') s)
    (n : Nat) (h : I n s) : codeAny (model prog w) A (.compLoop (.ListComp elt [⟨target, iter, ifs, 0⟩] scope pos) 0 it acc env) R s := by
  refine codeAny_loop rfl I (fun n s hI => ?_) n h
  show wpAny _ A ((compTurn (.ListComp elt [⟨target, iter, ifs, 0⟩] scope pos) 0 it acc env).onRaise (fun x => do noteFrame x env; theTreesLotGoes x)) _ _ s
  refine wpAny_noted ?_
  rw [compTurn_list]
  refine wpAny_bind (wpAny_standAt (wpAny_bind (wpAny_mono (turn n s hI) (fun r s₁ h₁ => ?_) fun _ _ h' => h')))
  cases r with
  | none => exact wpAny_pure h₁
  | some v =>
    refine wpAny_bind (wpAny_mono h₁ (fun _ s₁' h₁' => ?_) fun _ _ h' => h')
    refine wpAny_bind (wpAny_mono h₁' (fun _ s₂ h₂ => wpAny_bind (wpAny_mono h₂ (fun ok s₃ h₃ => ?_) fun _ _ h' => h')) fun _ _ h' => h')
    cases ok with
    | false => exact wpAny_pure ⟨rfl, h₃⟩
    | true =>
      exact wpAny_bind (wpAny_bind (wpAny_mono h₃ (fun x s₄ h₄ => wpAny_bind (wpAny_mono h₄ (fun _ s₅ h₅ => wpAny_pure (wpAny_pure ⟨rfl, h₅⟩)) fun _ _ h' => h')) fun _ _ h' => h'))
end

section
variable {X : Cx}
noncomputable def noCell (sc : Scope) : Bool := sc.names.all fun y => y.2 != .cell
noncomputable def freeOk (sc : Scope) (env : Env) : Bool := sc.names.all fun y => y.2 != .free || env.kindOf y.1 == some .cell
noncomputable def namesOk (sc : Scope) : Bool := sc.names.all fun y => y.2 != .local || sc.names.lookup y.1 == some .local
/-- what is known of the block's own namespace behind the block -/
structure BlockEnd (X : Cx) (pins : List (Addr × Obj)) (σ : St) (H : Hp) (C : Addr) (s : Shared) : Prop where
  inv : Inv X pins σ H s
  ns : ∃ m, s.heap.Ns C m
  free : H C = none
  loc : C ≠ X.env.locals
  young : X.s₀.heap.objs.size ≤ C
  cell : ∀ x c, X.env.cells.lookup x = some c → c ≠ C
  pin : ∀ p ∈ X.pn ++ pins, p.1 ≠ C
theorem BlockEnd.gone {pins : List (Addr × Obj)} {σ : St} {H : Hp} {C : Addr} {s : Shared} (B : BlockEnd X pins σ H C s) {h' : Heap} (hs : Heap.SameBut C s.heap h') : Inv X pins σ H { s with heap := h' } :=
  B.inv.turned (t' := s.toks) (it := C) (fun b o hb e => hs.extBut b o hb e) B.free B.loc (.inr B.young) B.cell B.pin
theorem comp_core {elt tg iter : Expr} {ifs : List Expr} {scope : Scope} {pos pos' : Pos} {N : List Str} {ix : List (Option Nat)} {wi : TI} {g : TG} {tt : TT} {te : TE} {use : Option (Value → Sem Unit)} {Qv : Value → Shared → Prop}
    (hc : X.calm = true) (hi : PI X tg iter wi) (hk : scope.kind = .function) (hcell0 : noCell scope = true) (hfree0 : freeOk scope X.env = true) (hnames0 : namesOk scope = true) (caps : Caps X scope N ix)
    (hg : ∀ cl C s H fp xe, PG (subCx X scope N cl C s H fp xe) tg g) (ht : ∀ cl C s H fp xe, PTs (subCx X scope N cl C s H fp xe) ifs tt) (he : ∀ cl C s H fp xe, PE (subCx X scope N cl C s H fp xe) elt te)
    (hs : ∀ x, foldedSetIterable iter X.env x = pure x)
    {pins : List (Addr × Obj)} {s : Shared} {σ : St} {H : Hp} {Q : VK} (I : Inv X pins σ H s) (h : tComp wi g tt te ix σ H Q)
    (fin : ∀ (C D : Addr) (H6 : Hp) (s6 : Shared), BlockEnd X pins σ H6 C s6 → Q (.ref D) H6 → compPost (model X.prog X.w) X.A X.xe use Qv (.ref D) C (.ok .next) s6) :
    wpAny (model X.prog X.w) X.A (comprehension (.ListComp elt [⟨tg, iter, ifs, 0⟩] scope pos) scope X.env pos' (newList []) false (eval iter X.env) use) Qv X.xe s := by
  have hcell : ∀ y ∈ scope.names, y.2 ≠ .cell := fun y hy e => by
    have := List.all_eq_true.mp hcell0 y hy
    rw [e] at this; exact absurd this (by decide)
  have hfree : ∀ y ∈ scope.names, y.2 = .free → X.env.kindOf y.1 = some .cell := fun y hy e => by
    have := List.all_eq_true.mp hfree0 y hy
    rw [e] at this; simpa using this
  have hnames : ∀ y ∈ scope.names, y.2 = .local → scope.names.lookup y.1 = some .local := fun y hy e => by
    have := List.all_eq_true.mp hnames0 y hy
    rw [e] at this; simpa using this
  have hcl : ∀ y ∈ scope.names, y.2 = .free → ∃ c, X.env.cells.lookup y.1 = some c := fun y hy e => I.ok.has y.1 (.inl (hfree y hy e))
  refine wpAny_comprehension_free (use := use) rfl hs (closure_eq hcl) hk hnames ?_
  generalize ecl : clOf X.env.cells scope.names [] = cl
  -- the cells of the block are the def's
  have cl1 : ∀ x c, cl.lookup x = some c → X.env.cells.lookup x = some c := fun x c e => by
    have m := lookup_mem e
    rw [← ecl] at m
    rcases clOf_mem.mp m with z | ⟨z, z'⟩
    · cases z
    · obtain ⟨a, ea⟩ := hcl _ z rfl
      have ea' : X.env.cells.lookup x = some a := ea
      have z2 : c = (X.env.cells.lookup x).getD 0 := z'
      rw [ea', Option.getD_some] at z2
      rw [ea', z2]
  have cl2 : ∀ x, (x, NameKind.free) ∈ scope.names → ∃ c, cl.lookup x = some c := fun x hx => by
    have m : (x, (X.env.cells.lookup x).getD 0) ∈ cl := by rw [← ecl]; exact clOf_mem.mpr (.inr ⟨hx, rfl⟩)
    exact mem_lookup m
  refine thn (hi pins s σ H _ I h) fun v s1 h1 => thn h1 fun itv s2 h2 => ?_
  obtain ⟨it, fp, tn, J, H2, e, I2, T, st2, f2, body⟩ := h2
  subst e
  refine wpAny_newObj_type (wpAny_newFunctionEnv hcell (by intro y hy; simp at hy) (fun h₁ hns₁ hsb₁ => ?_) hk)
  dsimp only at hns₁ hsb₁ ⊢
  have hD : H2 s2.heap.objs.size = none := I2.hok.fresh (Nat.le_refl _)
  obtain ⟨W, ⟨m0, w0⟩, turn⟩ := body _ hD
  have I3 : Inv X pins σ (upd H2 s2.heap.objs.size (.lst [])) { s2 with heap := s2.heap.push { cls := .type "list", dict := none, data := .seq ([] : List Value).toArray } } :=
    I2.laid (t' := s2.toks) (fun b o e => Heap.get?_push_of_some _ e) (Nat.le_refl _) ⟨Nat.zero_le _, [], 0, .nil, Heap.get?_push_size _ rfl⟩
  generalize hs3 : ({ s2 with heap := s2.heap.push { cls := .type "list", dict := none, data := .seq ([] : List Value).toArray } } : Shared) = s3 at I3
  have es3 : s2.heap.push { cls := .type "list", dict := none, data := .seq ([] : List Value).toArray } = s3.heap := by rw [← hs3]
  rw [es3] at hns₁ hsb₁ ⊢
  generalize hD' : s2.heap.objs.size = D at *
  generalize hH3 : upd H2 D (.lst []) = H3 at *
  have szC : s3.heap.objs.size = D + 1 := by rw [← es3, Heap.size_push, hD']
  -- what was, is
  have old : ∀ b o, s3.heap.get? b = some o → h₁.get? b = some o := fun b o e => hsb₁.extBut b o (Nat.ne_of_lt (Heap.lt_size e)) (Heap.get?_push_of_some _ e)
  have fpl : ∀ b ∈ fp, b < D := fun b hb => by
    obtain ⟨o, e, _⟩ := T.obj 0 _ st2 b hb
    rw [← hD']; exact Heap.lt_size e
  have fpD : ∀ b ∈ fp, H3 b = none := fun b hb => by
    rw [← hH3, upd_ne (Nat.ne_of_lt (fpl b hb))]; exact (f2 b hb).1
  have fstk : ∀ b ∈ fp, b ∉ frs X.stack := fun b hb z => by
    obtain ⟨_, f1, f3, _⟩ := f2 b hb
    rcases List.mem_cons.mp (I2.stkSub b z) with e | e
    · exact f1 e
    · exact f3 e
  let E' : Value → Shared → Prop := notedBy (model X.prog X.w) X.A (compEnvC scope cl s3.heap.objs.size X.env) fun e s' => compPost (model X.prog X.w) X.A X.xe use Qv (.ref D) s3.heap.objs.size (.error e) s'
  have ok' : (subCx X scope N cl s3.heap.objs.size s3 H3 fp E').Ok := by
    refine { mod := I.ok.mod, kind := ?_, glob := I.ok.glob, blt := I.ok.blt, above := Nat.le_refl _, inj := ?_, has := ?_, cab := ?_, hd := I.ok.hd, frames := I.ok.frames, stk := .inl rfl, exf := ?_, bs := I3.bs, bsz := ?_, noex := ?_, exfs := fstk, funs := I3.stack, frf := I3.stkFree }
    · show (relabel scope X.env).kind = .function
      exact hk
    · exact fun x y c e1 e2 => I.ok.inj x y c (cl1 x c e1) (cl1 y c e2)
    · intro x hx
      have hx' : (relabel scope X.env).names.lookup x = some .cell ∨ (relabel scope X.env).names.lookup x = some .free := hx
      have : (x, NameKind.free) ∈ scope.names := by
        rcases hx' with e | e
        · obtain ⟨k', hm, z | ⟨z, _⟩⟩ := relabel_mem e
          · subst z; exact absurd rfl (hcell _ hm)
          · subst z; exact hm
        · obtain ⟨k', hm, z | ⟨z, z'⟩⟩ := relabel_mem e
          · subst z; exact hm
          · cases z'
      exact cl2 x this
    · intro x c z; cases z
    · intro b hb
      refine ⟨fun z => ?_, fun x c e => (f2 b hb).2.2.2.2.1 x c (cl1 x c e)⟩
      have lt := fpl b hb
      have z' : b = s3.heap.objs.size := z
      rw [z', szC] at lt
      exact absurd lt (Nat.not_lt.mpr (Nat.le_succ D))
    · exact Nat.le_trans I3.ok.bsz I3.sz
    · intro b o e hb
      rcases (f2 b hb).2.2.2.1 with z | z
      · exact I.ok.noex b o e z
      · exact absurd (Nat.lt_of_lt_of_le (Heap.lt_size e) (Nat.le_trans I.ok.bsz z)) (Nat.lt_irrefl _)
  have I4 : ∀ tk, Inv (subCx X scope N cl s3.heap.objs.size s3 H3 fp E') [] (capS ix σ) H3 { s3 with heap := h₁, toks := tk } := fun tk => by
    refine ⟨ok', rfl, I3.bare, Un.kept old, ⟨_, hns₁, fun i x v e1 e2 e3 => ?_⟩, fun x c e => ?_, ?_, fun x c e => I3.freeC x c (cl1 x c e), fun p hp => (by cases hp), I3.hok.kept old, ?_⟩
    · obtain ⟨j, j1, j2, j3, j4⟩ := caps.get i x v e1 e2
      obtain ⟨m, hn, hl⟩ := I3.loc
      obtain ⟨u, r, l⟩ := hl j x v j1 j2 (.inr (.inl j3))
      refine ⟨u, r, .inr ⟨.inl j4, ?_⟩⟩
      rcases l with ⟨l, _⟩ | ⟨_, c, ec, hcell⟩
      · have l' : X.env.kindOf x = some .local := l
        rw [j3] at l'; cases l'
      · obtain ⟨k', hm, z | ⟨z, _⟩⟩ := relabel_mem j4
        · subst z; exact absurd rfl (‹∀ y ∈ scope.names, y.2 ≠ .cell› _ hm)
        · subst z
          obtain ⟨c', ec'⟩ := cl2 x hm
          have := cl1 x c' ec'
          rw [ec] at this; cases this
          obtain ⟨o, ho, hd⟩ := hcell
          exact ⟨c, ec', o, old _ _ ho, hd⟩
    · obtain ⟨v, o, ho, hd⟩ := I3.cell x c (cl1 x c e)
      exact ⟨v, o, old _ _ ho, hd⟩
    · exact I3.hok.fresh (Nat.le_refl _)
    · show (capS ix σ).length = N.length
      rw [← caps.length]; simp [capS]
  have st4 : tn 0 h₁ := T.keep 0 _ _ st2 fun b hb o e => old b o (by rw [← es3]; exact Heap.get?_push_of_some _ e)
  -- the block's end
  have fin6 : ∀ (s6 : Shared) (H6 : Hp), Inv (subCx X scope N cl s3.heap.objs.size s3 H3 fp E') [] (capS ix σ) H6 s6 → Q (.ref D) H6 →
      compPost (model X.prog X.w) X.A X.xe use Qv (.ref D) s3.heap.objs.size (.ok .next) s6 := fun s6 H6 I6 q => by
    obtain ⟨m, hn, _⟩ := I6.loc
    refine fin s3.heap.objs.size D H6 s6 ⟨I3.call' (s' := s6) (ch := fp) I6.os I6.base I6.hok I6.bare ?_, ⟨m, hn⟩, I6.free, ?_, I3.sz, ?_, ?_⟩ q
    · intro b hb
      obtain ⟨_, f1, _, f3, f4, f5⟩ := f2 b hb
      exact ⟨f3, f1, f4, f5⟩
    · exact Nat.ne_of_gt I3.lt
    · intro x c e z
      obtain ⟨v, o, ho, _⟩ := I3.cell x c e
      exact absurd (Heap.lt_size ho) (by rw [z]; exact Nat.lt_irrefl _)
    · intro p hp z
      exact absurd (Heap.lt_size (I3.pin p hp).1) (by rw [z]; exact Nat.lt_irrefl _)
  -- the loop
  have loop : ∀ s4 : Shared, s4 = { s3 with heap := h₁, toks := s2.toks + ([] : List (Str × Value)).length } →
      codeAny (model X.prog X.w) X.A (.compLoop (.ListComp elt [⟨tg, iter, ifs, 0⟩] scope pos) 0 (.ref it) (.ref D) (compEnvC scope cl s3.heap.objs.size X.env)) (compPost (model X.prog X.w) X.A X.xe use Qv (.ref D) s3.heap.objs.size) s4 := by
    rintro s4 rfl
    refine comp_loop (fun n s' => ∃ i ys H', Inv (subCx X scope N cl s3.heap.objs.size s3 H3 fp E') [] (capS ix σ) H' s' ∧ tn i s'.heap ∧ (∀ b ∈ fp, H' b = none) ∧ W i n ys H') ?_ m0 ⟨0, [], H3, I4 _, st4, fpD, w0⟩
    rintro n s5 ⟨i, ys, H5, I5, st5, fr5, w5⟩
    have stat : ∀ {H' : Hp}, (∀ b ∈ fp, H' b = none) → ∀ b ∈ fp, FpOk (subCx X scope N cl s3.heap.objs.size s3 H3 fp E') [] H' b := fun hn b hb => by
      refine ⟨hn b hb, fun z => ?_, fstk b hb, .inl hb, fun x c e => (f2 b hb).2.2.2.2.1 x c (cl1 x c e), fun p hp => (by cases hp)⟩
      have lt := fpl b hb
      have z' : b = s3.heap.objs.size := z
      rw [z', szC] at lt
      exact absurd lt (Nat.not_lt.mpr (Nat.le_succ D))
    rcases turn i n ys H5 w5 with ⟨stop, q⟩ | ⟨go, step⟩
    · refine thn (T.done (subCx X scope N cl s3.heap.objs.size s3 H3 fp E') rfl rfl rfl hc i [] s5 _ H5 E' I5 (stat fr5) st5 stop) fun r s6 ⟨hr, I6⟩ => ?_
      subst hr
      exact fin6 s6 H5 I6 q
    · refine thn (T.item (subCx X scope N cl s3.heap.objs.size s3 H3 fp E') rfl rfl rfl hc i [] s5 _ H5 E' I5 (stat fr5) st5 go) fun r s6 ⟨u, hr, h6⟩ => ?_
      subst hr
      refine thn h6 fun _ s7 ⟨x, H7, I7, r7, y7, st7, fr7⟩ => ?_
      have I7' := I7.pinned (stat fr7) (T.obj _ _ st7)
      refine thn (hg cl s3.heap.objs.size s3 H3 fp E' _ s7 _ H7 x u _ I7' r7 (step x H7 y7)) fun _ s8 ⟨σ8, H8, I8, ext, q8⟩ => ?_
      have again : ∀ {σ9 : St} {H9 : Hp} {s9 : Shared} {m' : Nat} {zs : List V}, Ext (capS ix σ) σ9 → Inv (subCx X scope N cl s3.heap.objs.size s3 H3 fp E') ([] ++ pinsAt fp s7.heap) σ9 H9 s9 → m' < n → W (i + 1) m' zs H9 →
          ∃ m, m < n ∧ ∃ i ys H', Inv (subCx X scope N cl s3.heap.objs.size s3 H3 fp E') [] (capS ix σ) H' s9 ∧ tn i s9.heap ∧ (∀ b ∈ fp, H' b = none) ∧ W i m ys H' := fun {σ9 H9 s9 m' zs} ex I9 hm w9 => by
        refine ⟨m', hm, i + 1, zs, H9, (I9.unpinned).weak ex.1.symm ex.2, T.keep _ _ _ st7 fun b hb o e => (I9.pin (b, o) (List.mem_append_right _ (List.mem_append_right _ (mem_pinsAt hb e)))).1, fun b hb => ?_, w9⟩
        obtain ⟨o, e, d⟩ := T.obj _ _ st7 b hb
        exact (I9.pin (b, o) (List.mem_append_right _ (List.mem_append_right _ (mem_pinsAt hb e)))).2.1
      refine thn (ht cl s3.heap.objs.size s3 H3 fp E' _ s8 σ8 H8 _ I8 q8) fun ok s9 ⟨H9, I9, q9⟩ => ?_
      cases ok with
      | false =>
        obtain ⟨m', hm, w9⟩ := q9
        exact again ext I9 hm w9
      | true =>
        refine thn (he cl s3.heap.objs.size s3 H3 fp E' _ s9 σ8 H9 _ I9 q9) fun u10 s10 ⟨v10, H10, I10, r10, hDl, hlt, m', hm, w10⟩ => ?_
        refine thn (mt_append (X := subCx X scope N cl s3.heap.objs.size s3 H3 fp E') _ s10 σ8 H10 (.ref D) [v10] (.ref D) [u10] (fun _ H' => H' = upd H10 D (.lst (ys ++ [v10]))) I10 rfl (.cons r10 .nil) ⟨D, ys, v10, rfl, rfl, hDl, hlt, rfl⟩) fun _ s11 ⟨_, H11, I11, _, e11⟩ => ?_
        subst e11
        exact again ext I11 hm w10
  exact codeAny_compStart_list (loop _ (by rw [← hs3])) (T.self _ 0 _ _ _ st4 (loop _ (by rw [← hs3])))

/-- a comprehension as a value -/
theorem pe_comp {elt tg iter : Expr} {ifs : List Expr} {scope : Scope} {pos : Pos} {N : List Str} {ix : List (Option Nat)} {wi : TI} {g : TG} {tt : TT} {te : TE}
    (hc : X.calm = true) (hi : PI X tg iter wi) (hk : scope.kind = .function) (hcell0 : noCell scope = true) (hfree0 : freeOk scope X.env = true) (hnames0 : namesOk scope = true) (caps : Caps X scope N ix)
    (hg : ∀ cl C s H fp xe, PG (subCx X scope N cl C s H fp xe) tg g) (ht : ∀ cl C s H fp xe, PTs (subCx X scope N cl C s H fp xe) ifs tt) (he : ∀ cl C s H fp xe, PE (subCx X scope N cl C s H fp xe) elt te)
    (hs : ∀ x, foldedSetIterable iter X.env x = pure x := by intro _; rfl) :
    PE X (.ListComp elt [⟨tg, iter, ifs, 0⟩] scope pos) (tComp wi g tt te ix) := by
  intro pins s σ H Q I h
  rw [eval_ListComp]
  refine comp_core (use := none) hc hi hk hcell0 hfree0 hnames0 caps hg ht he hs I h fun C D H6 s6 B q => ?_
  obtain ⟨m, hn⟩ := B.ns
  exact ⟨m, hn, fun h' hsb => ⟨.ref D, H6, B.gone hsb, rfl, q⟩⟩
/-- y = [.. for ..] on one line: stored ahead of the block's end -/
noncomputable def tSetC (i : Nat) (te : TE) : TS := fun D σ H => te σ H fun x H1 => D.nx (σ.set i (some x)) H1
theorem ps_setComp {i : Nat} {y : Str} {py : Pos} {spos : Pos} {elt tg iter : Expr} {ifs : List Expr} {scope : Scope} {pos : Pos} {N : List Str} {ix : List (Option Nat)} {wi : TI} {g : TG} {tt : TT} {te : TE}
    (hN : X.N.Nodup) (hi' : X.N[i]? = some y) (hx : Loc X.env.scope y) (hsw : swapsWith (.ListComp elt [⟨tg, iter, ifs, 0⟩] scope pos) (some (.Name y py)) spos.line X.env = pure true)
    (hc : X.calm = true) (hi : PI X tg iter wi) (hk : scope.kind = .function) (hcell0 : noCell scope = true) (hfree0 : freeOk scope X.env = true) (hnames0 : namesOk scope = true) (caps : Caps X scope N ix)
    (hg : ∀ cl C s H fp xe, PG (subCx X scope N cl C s H fp xe) tg g) (ht : ∀ cl C s H fp xe, PTs (subCx X scope N cl C s H fp xe) ifs tt) (he : ∀ cl C s H fp xe, PE (subCx X scope N cl C s H fp xe) elt te)
    (hs : ∀ x, foldedSetIterable iter X.env x = pure x := by intro _; rfl) (hf : X.fn y = true ∨ X.env.scope.names.lookup y = some .local := by first | exact .inl rfl | exact .inr rfl | assumption) :
    PS X (.Assign [.Name y py] (.ListComp elt [⟨tg, iter, ifs, 0⟩] scope pos) spos) (tSetC i (tComp wi g tt te ix)) := by
  intro pins s σ H D I h
  rw [exec_Assign_Name_used _ _ _ _ hsw]
  refine wpAny_bind (wpAny_standAt (wpAny_bind ?_))
  show wpAny _ X.A (do let _ ← comprehension (.ListComp elt [⟨tg, iter, ifs, 0⟩] scope pos) scope X.env _ (newList []) false (eval iter X.env) (some (assign (.Name y py) X.env))) _ _ s
  refine wpAny_bind (wpAny_mono (comp_core (use := some (assign (.Name y py) X.env)) (Qv := fun _ s' => SP X pins D .next s') hc hi hk hcell0 hfree0 hnames0 caps hg ht he hs I h fun C a H6 s6 B q => ?_) (fun _ s' hq => wpAny_pure (wpAny_pure hq)) fun _ _ e => e)
  obtain ⟨m, hn⟩ := B.ns
  show wpAny _ X.A (assign (.Name y py) X.env (.ref a)) _ _ s6
  refine wpAny_assign_Name (store_ok2 B.inv hN hi' hx (v := .ref a) rfl (fun s7 I7 ⟨z, hz, hz'⟩ => ?_) hf)
  have hzC : C ≠ z := by
    rcases hz' with e | e
    · rw [e]; exact B.loc
    · exact fun w => B.cell y z e w.symm
  refine ⟨m, hn.sameBut hz hzC, fun h' hsb => ?_⟩
  have B7 : BlockEnd X pins (σ.set i (some (.ref a))) H6 C s7 := ⟨I7, ⟨m, hn.sameBut hz hzC⟩, B.free, B.loc, B.young, B.cell, B.pin⟩
  exact ⟨_, H6, B7.gone hsb, q⟩

/-- over a list that stays, every element a value that needs nothing new -/
theorem comp_list {K : PySem.W.Frag} {a : Addr} {xs : List V} {g : TG} {tt : TT} {te : TE} {σ0 : St} {H : Hp} {D : Addr} {Q : VK} (f : V → V) (hz : xs.length ≤ sizeLine) (hx : SqL K H a xs) (hD : H D = none)
    (hs : ∀ (i : Nat) (x : V) (H' : Hp) (R : VK) (R0 : Hp → Prop), xs[i]? = some x → (∀ b, b ≠ D → H' b = H b) → R (f x) H' → g x σ0 H' fun σ2 H2 => Ext σ0 σ2 ∧ tt σ2 H2 fun b H3 => if b = true then te σ2 H3 R else R0 H3)
    (hq : Q (.ref D) (upd H D (.lst (xs.map f)))) :
    CompW (Itl K a) g tt te σ0 D Q H := by
  have stays : ∀ ys : List V, SqL K (upd H D (.lst ys)) a xs := fun ys => by
    have sm : Same H (upd H D (.lst ys)) := fun b u q => by rw [upd_ne (ne_of_none q hD)]; exact q
    exact sm.seq hx
  refine ⟨fun i m ys H' => m = xs.length - i ∧ i ≤ xs.length ∧ ys = (xs.take i).map f ∧ H' = upd H D (.lst ys), ⟨xs.length, by simp, Nat.zero_le _, by simp, rfl⟩, ?_⟩
  rintro i m ys H' ⟨rfl, hi, rfl, rfl⟩
  by_cases hlt : i < xs.length
  · refine .inr ⟨⟨xs, xs[i], stays _, by simp [hlt]⟩, fun x H'' y => ?_⟩
    obtain ⟨e, y⟩ := y
    subst e
    have ex := y xs (stays _)
    refine hs i x _ _ _ ex (fun b hb => upd_ne hb) ⟨upd_same, by simp; omega, xs.length - (i + 1), by omega, rfl, hlt, ?_, ?_⟩
    · rw [List.take_add_one, ex, List.map_append]; rfl
    · rw [upd_upd]
  · have e : i = xs.length := by omega
    subst e
    refine .inl ⟨⟨xs, stays _, Nat.le_refl _⟩, ?_⟩
    rw [List.take_length]
    exact hq
end
end L2

set_option Elab.async false
set_option linter.all false
set_option maxRecDepth 100000
set_option maxHeartbeats 4000000
/-! Own rules over the layer: exceptions of own classes, raised, passed on, caught. -/
namespace L2
open PySem PySem.Spec PyProof.Rows
section
variable {P : Program} {w : World} {H : Hp} {h h' : Heap} {a : Addr} {o : HO}
end

/-- an exception of class cls at e, its trace at T -/
noncomputable def Tr (h : Heap) (e T : Addr) (cls : Value) : Prop := ∃ oe vs oT ts a0, h.get? e = some oe ∧ oe.cls = cls ∧ vs[0]? = some a0 ∧ oe.data = .fields vs ∧ vs[1]? = some (.ref T) ∧ T ≠ e ∧ h.get? T = some oT ∧ oT.data = .fields ts ∧ ts[3]? = some Value.none
section
variable {M : Model} {A : Around} {E : Value → Shared → Prop} {s : Shared} {Q : Unit → Shared → Prop} {base : Heap} {env : Env} {outer l : List Env} {L e T : Addr} {cls : Value}
end

/-! ### the state while an exception goes by -/
section
variable {X : Cx} {pins : List (Addr × Obj)} {σ : St} {H : Hp} {s : Shared} {h' : Heap} {ch : List Addr}
end

/-! ### how an exception lies behind a call -/
noncomputable def CX1 (P : Program) (w : World) : CXT := fun outer H s E e s' => ∃ (ea T : Addr) (cls : Value) (H' : Hp), e = .ref ea ∧ s.heap.get? ea = none ∧ s.heap.get? T = none ∧ H' ea = none ∧ H' T = none ∧ Tr s'.heap ea T cls ∧
  s'.os = s.os ∧ AllBare s'.gens ∧ Un (frs outer) [] H H' s.heap s'.heap ∧ HOk P w H' s'.heap ∧ E cls none H'
theorem passN {P : Program} {w : World} {X : Cx} : Passes (CX1 P w) X E0 := fun _ _ _ _ _ _ _ ⟨_, _, _, _, _, _, _, _, _, _, _, _, _, _, q⟩ => q.elim
section
variable {P : Program} {w : World} {K : PySem.W.Frag} {mg : Str → Option Value} {base : Heap} {N : List Str} {qual : Str} {scope : Scope} {f : Addr} {cd : Value} {A : Around} {outer : List Env} {s : Shared} {H : Hp} {E : XK}
end
section
variable {P : Program} {w : World} {K : PySem.W.Frag} {mg : Str → Option Value} {base : Heap}
/-- a def that raises nothing, where exceptions may lie -/
theorem FnOk.up {CX : CXT} {k : Nat} {f : Addr} {fd : FuncData} {ps : List Str} {sp : Sp} (F : FnOk P w K mg base CX0 k f fd ps sp) : FnOk P w K mg base CX k f fd ps sp :=
  ⟨F.len, fun A outer s H args us vs Q E hr he hb hv hs => codeAny_mono (F.run A outer s H args us vs Q E hr he hb hv hs) fun r s' q => by
    cases r with
    | error e => exact False.elim q
    | ok fl => cases fl <;> exact q⟩
end

/-! ### raise C(..), C an own class under ValueError without an __init__ of its own -/
/-! ### try: f(..), except C as n: .. -/
section
variable {X : Cx} {pins : List (Addr × Obj)} {σ : St} {H : Hp} {s : Shared} {e : Addr}
end
end L2

set_option Elab.async false
set_option linter.all false
set_option maxRecDepth 100000
set_option maxHeartbeats 4000000
/-! Own words over the layer: a def with all that a caller asks of it, calls, boots, stores. -/
namespace L2
open PySem PySem.Spec PyProof.Rows
/-- a def of the text, its promise, and how it is called -/
structure Def (P : Program) (w : World) (K : PySem.W.Frag) (mg : Str → Option Value) (base : Heap) (x : Str) (ps : List Str) (k : Nat) (sp : Sp) (f : Addr) (fd : FuncData) : Prop where
  ok : FnOk P w K mg base (CX1 P w) k f fd ps sp
  b : Binds K fd ps []
  kp : PySem.W.keepIn K (.ref f) = true
  m : mg x = some (.ref f)
section
variable {X : Cx} {f : Addr} {fd : FuncData} {ps : List Str} {sp : Sp} {x : Str} {p pos : Pos} {e : Expr} {es : List Expr} {t : TA} {j k : Nat}
theorem pcall (D : Def X.prog X.w X.K X.mg X.base x ps j sp f fd) (hr : Room k X.A) (ha : PA X (e :: es) t) (hjk : j ≤ k := by decide) (hg : Gl X x := by rfl)
    (hdb : (x == ("__debug__" : Str)) = false := by decide) (he : starEach (e :: es) X.env = (false, eval e X.env) :: starEach es X.env := by rfl) (hpl : (backTo pos (starEach es X.env)).any (·.1) = false := by rfl) :
    PE X (.Call (.Name x p) (e :: es) [] pos) (tCall sp [] E0 t) := pe_call D.ok (hr.mono hjk) hg D.m D.kp D.b .nil passN ha hdb he hpl
end
theorem bb_isinstance : bootBuiltins "isinstance" = some (.builtin "isinstance") := by decide +kernel
theorem bb_int : bootBuiltins "int" = some (.type "int") := by decide +kernel
theorem bb_bool : bootBuiltins "bool" = some (.type "bool") := by decide +kernel
theorem bb_list : bootBuiltins "list" = some (.type "list") := by decide +kernel
theorem bb_tuple : bootBuiltins "tuple" = some (.type "tuple") := by decide +kernel
theorem bb_min : bootBuiltins "min" = some (.builtin "min") := by decide +kernel
theorem bb_sum : bootBuiltins "sum" = some (.builtin "sum") := by decide +kernel
theorem bb_len : bootBuiltins "len" = some (.builtin "len") := by decide +kernel
theorem Same.upd {H H' : Hp} (h : Same H H') {p : Addr} (n : H p = none) (o : HO) : Same H (L2.upd H' p o) := fun b u q => by
  rw [upd_ne (ne_of_none q n)]; exact h b u q
theorem Same.new {H H' : Hp} (h : Same H H') {p : Addr} (n : H' p = none) (o : HO) : Same H (L2.upd H' p o) := h.trans fun b u q => by
  rw [upd_ne (ne_of_none q n)]; exact q
theorem sz {n : Nat} (h : n ≤ 1000000) : n ≤ sizeLine := Nat.le_trans h (by decide)
theorem sz' {n : Nat} (h : n ≤ 1000000) : n < sizeLine := Nat.lt_of_le_of_lt h (by decide)
/-- x in {int} and not bool: what isinstance says of an int -/
theorem kit_int_int {K : PySem.W.Frag} : PySem.W.kitOne K (.type "int") (.type "int") = some true := by rfl
theorem kit_list_list {K : PySem.W.Frag} : PySem.W.kitOne K (.type "list") (.type "list") = some true := by rfl
theorem kit_int_bool {K : PySem.W.Frag} : PySem.W.kitOne K (.type "int") (.type "bool") = some false := by rfl
theorem atI_int {ns : List Int} {i : Int} (h0 : 0 ≤ i) (h1 : i < (ns.length : Int)) : atI (ns.map V.int) i = some (.int (ns.getD i.toNat 0)) := by
  have hk : i.toNat < ns.length := by omega
  have ek : i = ((i.toNat : Nat) : Int) := by omega
  have q : atI (ns.map V.int) ((i.toNat : Nat) : Int) = some (.int (ns.getD i.toNat 0)) := atI_nat (by rw [List.getElem?_map, List.getD_eq_getElem?_getD, List.getElem?_eq_getElem hk] <;> rfl)
  rw [← ek] at q
  exact q
end L2
namespace L2
open PySem PySem.Spec PyProof.Rows
theorem ttN {σ : St} {H : Hp} {F : Bool → Hp → Prop} (h : F true H) : ttNil σ H F := h
theorem ix_listK {X : Cx} {K : PySem.W.Frag} (h : X.K = K) : IxR X (rIxL K) := h ▸ ix_list
theorem pm {j : Int} (h : 0 < j) : 0 < j := h
/-- the items of a cut list of ints -/
noncomputable def cutI (ns : List Int) (lo hi : Option Int) : List Int := (ns.drop (HT.sIx ns.length 0 lo)).take (HT.sIx ns.length ns.length hi - HT.sIx ns.length 0 lo)
theorem cutV_map (ns : List Int) (lo hi : Option Int) : cutV (ns.map V.int) lo hi = (cutI ns lo hi).map V.int := by
  unfold cutV cutI
  rw [List.length_map, List.map_take, List.map_drop]
theorem get_int {ns : List Int} {i : Nat} {x : V} (h : (ns.map V.int)[i]? = some x) : ∃ c, x = .int c := by
  rw [List.getElem?_map] at h
  cases e : ns[i]? with
  | none => rw [e] at h; cases h
  | some c => rw [e] at h; cases h; exact ⟨c, rfl⟩
end L2
namespace L2
open PySem PySem.Spec PyProof.Rows
/-- a sequence cut at what holds between -/
noncomputable def tCut (t u : TS) : TS := fun D σ H => ∃ P : St → Hp → Prop, t { D with nx := P } σ H ∧ ∀ σ' H', P σ' H' → u D σ' H'
theorem pss_cut {X : Cx} {st : Stmt} {rest : List Stmt} {t u : TS} (h1 : PS X st t) (h2 : PSs X rest u) : PSs X (st :: rest) (tCut t u) := by
  intro pins s σ H D I h
  obtain ⟨P, ha, hb⟩ := h
  refine wpAny_execs_cons (thn (h1 pins s σ H { D with nx := P } I ha) fun f s1 q => ?_)
  cases f with
  | next =>
    obtain ⟨σ', H', I', q⟩ := q
    exact h2 pins s1 σ' H' D I' (hb σ' H' q)
  | ret v => exact q
  | brk => exact q
  | cont => exact q
theorem iteP {c A B : Prop} [Decidable c] (hc : c) (h : A) : if decide c = true then A else B := by rw [decide_eq_true hc]; exact iteT h
theorem iteN {c A B : Prop} [Decidable c] (hc : ¬ c) (h : B) : if decide c = true then A else B := by rw [decide_eq_false hc]; exact iteF h
theorem ixN_nat {n : Nat} {i : Int} (h0 : 0 ≤ i) (h1 : i < n) : ixN n i = some i.toNat := by unfold ixN; rw [if_pos h0, if_pos h1]
theorem cutI_length (ns : List Int) (lo hi : Option Int) : (cutI ns lo hi).length ≤ ns.length := by
  unfold cutI; rw [List.length_take, List.length_drop]; omega
end L2

/-! Mathematics of the counts: the rule, the shares, the rests. No library. -/
namespace Ck
end Ck

/-! Mathematics of the rests and of the places of texts. -/
namespace Ck
/-- r(u, d) -/
noncomputable def r : Nat → Nat → Int
  | 0, _ => 1
  | _ + 1, 0 => 0
  | u + 1, d + 1 => if d < u then 0 else r u (d + 1) + r (u + 1) d
/-- the row of u for a size n -/
noncomputable def row (n u : Nat) : List Int := (List.range (n + 1 - u)).map fun i => r u (u + i)
/-- the product of k factors -/
noncomputable def pw (a : Int) : Nat → Int
  | 0 => 1
  | k + 1 => pw a k * a
end Ck

/-! Mathematics of texts that close: signs are codes, 40 is the opening one, 41 the closing one. u of the first and d of the second are still to come. -/
namespace Ck
/-- the order of texts, the opening sign first -/
noncomputable def lt : List Nat → List Nat → Bool
  | c :: s, e :: t => if c = e then lt s t else c == 40
  | _, _ => false
end Ck

set_option Elab.async false
set_option linter.all false
set_option maxRecDepth 100000
set_option maxHeartbeats 4000000
/-! Texts as lists of codes: slices, counts, repeats. -/
namespace Ck
open PySem
/-- a bound of a slice as a place -/
noncomputable def ix (n d : Nat) : Option Int → Nat
  | none => d
  | some v => if v < 0 then (v + (n : Int)).toNat else min v.toNat n
end Ck

set_option Elab.async false
set_option linter.all false
set_option maxRecDepth 100000
set_option maxHeartbeats 4000000
/-! Where the mathematics and the layer meet. -/
namespace Ck
open PySem L2
end Ck
namespace L2
open PySem
end L2
namespace Ck
open PySem L2
end Ck
namespace L2
open PySem PySem.Spec PyProof.Rows
end L2
namespace Ck
open PySem L2
end Ck

set_option Elab.async false
set_option linter.all false
set_option maxRecDepth 100000
set_option maxHeartbeats 4000000
/-! Own rules over the layer: a range that goes down, lists compared, isinstance of an exception. -/
namespace L2
open PySem PySem.Spec PyProof.Rows
section
variable {X : Cx} {tg : Expr}
end

/-! ### lists of plain values compared -/
section
variable {X : Cx}
end
end L2

set_option Elab.async false
set_option linter.all false
set_option maxRecDepth 100000
set_option maxHeartbeats 4000000
/-! Own rules: what isinstance says of a caught exception; the program's classes of refusals. -/
namespace L2
open PySem PySem.Spec PyProof.Rows PySem.W Builtin Builtin.ObjectAttr Builtin.Getset_descriptor
section
variable {K : Frag} {e C : Addr} {M : Model} {h : Heap} {prog : Program} {w : World} {A : Around} {E : Value → Shared → Prop} {s : Shared}
end
section
variable {K : Frag} {e C : Addr} {M : Model} {h : Heap} {prog : Program} {w : World} {A : Around} {E : Value → Shared → Prop} {s : Shared}
end
section
variable {X : Cx}
end
end L2
namespace Ck
open PySem L2
end Ck

set_option Elab.async false
set_option linter.all false
set_option maxRecDepth 100000
set_option maxHeartbeats 4000000
/-! Own rules: methods with all that a caller asks of them, tried ones too; except without a name. -/
namespace L2
open PySem PySem.Spec PyProof.Rows
/-- a method of the text (or any def that is not called by its name), its promise, and how it is called -/
structure MDef (P : Program) (w : World) (K : PySem.W.Frag) (mg : Str → Option Value) (base : Heap) (ps : List Str) (k : Nat) (sp : Sp) (f : Addr) (fd : FuncData) : Prop where
  ok : FnOk P w K mg base (CX1 P w) k f fd ps sp
  b : Binds K fd ps []
section
variable {X : Cx} {C f : Addr} {fd : FuncData} {ps : List Str} {sp : Sp} {m : Str} {apos pos : Pos} {o e : Expr} {es : List Expr} {ta : TE} {t : TA} {j k : Nat}
theorem pmeth {pl : Sem Bool} (ho : PE X o ta) (c : Cls X.K C) (hm : Meth X.K C m f) (D : MDef X.prog X.w X.K X.mg X.base ps j sp f fd) (hr : Room k X.A) (ha : PA X (e :: es) t) (hjk : j ≤ k := by decide)
    (hst : starEach (e :: es) X.env = (false, eval e X.env) :: starEach es X.env := by rfl) (hpl : (backTo pos (starEach es X.env)).any (·.1) = false := by rfl)
    (ht : eval (.Call (.Attribute o m apos) (e :: es) [] pos) X.env = (do
      let ov ← eval o X.env
      standAt apos.atName
      let (f, first) ← holding [ov] (getMethod ov m pl)
      callWith pos f first (backTo pos (starEach (e :: es) X.env)) (backToKw pos (keywordEach [] X.env))) := by rfl) :
    PE X (.Call (.Attribute o m apos) (e :: es) [] pos) (tMeth C m sp [] E0 ta t) := pe_meth ho c hm D.ok (hr.mono hjk) D.b .nil passN ha hst hpl ht
theorem pmeth0 {pl : Sem Bool} (ho : PE X o ta) (c : Cls X.K C) (hm : Meth X.K C m f) (D : MDef X.prog X.w X.K X.mg X.base ps j sp f fd) (hr : Room k X.A) (hjk : j ≤ k := by decide)
    (ht : eval (.Call (.Attribute o m apos) [] [] pos) X.env = (do
      let ov ← eval o X.env
      standAt apos.atName
      let (f, first) ← holding [ov] (getMethod ov m pl)
      callWith pos f first (backTo pos (starEach [] X.env)) (backToKw pos (keywordEach [] X.env))) := by rfl) :
    PE X (.Call (.Attribute o m apos) [] [] pos) (tMeth C m sp [] E0 ta tNil) := pe_meth0 ho c hm D.ok (hr.mono hjk) D.b .nil passN ht
end
/-! ### C.m(self, ..): a base class's method by the class's name -/
structure ClsM (K : PySem.W.Frag) (C : Addr) (m : Str) (f : Addr) : Prop where
  hg : PySem.W.specialIn K (.ref C) "__getattribute__" = some (some (.builtin "type.__getattribute__"))
  rd : PySem.W.readsIn K C (.type "type") = true
  at_ : PySem.W.findCls K (.ref C) (.type "type") m = some (.val (.ref f))
  kp : PySem.W.keepIn K (.ref f) = true
section
variable {X : Cx} {C f : Addr} {fd : FuncData} {ps : List Str} {sp : Sp} {x m : Str} {p apos pos : Pos} {e : Expr} {es : List Expr} {t : TA} {j k : Nat}
theorem pcls {pl : Sem Bool} (hm : X.mg x = some (.ref C)) (M : ClsM X.K C m f) (D : MDef X.prog X.w X.K X.mg X.base ps j sp f fd) (hr : Room k X.A) (ha : PA X (e :: es) t) (hjk : j ≤ k := by decide) (hg : Gl X x := by rfl)
    (hdb : (x == ("__debug__" : Str)) = false := by decide) (hst : starEach (e :: es) X.env = (false, eval e X.env) :: starEach es X.env := by rfl) (hpl : (backTo pos (starEach es X.env)).any (·.1) = false := by rfl)
    (ht : eval (.Call (.Attribute (.Name x p) m apos) (e :: es) [] pos) X.env = (do
      let ov ← eval (.Name x p) X.env
      standAt apos.atName
      let (f, first) ← holding [ov] (getMethod ov m pl)
      callWith pos f first (backTo pos (starEach (e :: es) X.env)) (backToKw pos (keywordEach [] X.env))) := by rfl) :
    PE X (.Call (.Attribute (.Name x p) m apos) (e :: es) [] pos) (tCall sp [] E0 t) := by
  intro pins s σ H Q I h
  refine PySem.W.methodCall_KW (pl := pl) (ld_glob I hg hm ?_ hdb) ht
  refine PySem.W.method_cls I.kIn M.hg (PySem.W.cls_value I.kIn M.rd M.at_ rfl ?_)
  have I1 : Inv X pins σ H { s with toks := s.toks + 1 } := I.tok _
  refine PySem.W.callWith_K (first := []) (h₀ := X.base) I.ok.mod.kin M.kp (thn (ha pos pins _ σ H _ I1 h) fun us s2 ⟨vs, H2, I2, r, q2⟩ => ⟨I2.kIn, ?_⟩) hst hpl
  exact run_fn D.ok (hr.mono hjk) D.b .nil passN I2 r q2
end

section
variable {X : Cx} {C f : Addr} {fd : FuncData} {ps : List Str} {sp : Sp} {x : Str} {p pos : Pos} {j k : Nat}
/-- C(): a new object -/
theorem pmake0 (M : Mk X.K C f) (hm : X.mg x = some (.ref C)) (D : MDef X.prog X.w X.K X.mg X.base ps j sp f fd) (hr : Room k X.A) (hjk : j + 1 ≤ k := by decide) (hg : Gl X x := by rfl) (hdb : (x == ("__debug__" : Str)) = false := by decide) :
    PE X (.Call (.Name x p) [] [] pos) (tMake C sp [] E0 tNil) := pe_make0 M D.ok (hr.mono hjk) hg hm D.b .nil passN hdb
end
end L2
namespace L2
open PySem
/-! ### a def that calls itself: by a number that falls -/
noncomputable def below (N : Nat) (sp : Nat → Sp) : Sp := fun vs H Q E => ∃ m, m < N ∧ sp m vs H Q E
theorem below_ok {P : Program} {w : World} {K : PySem.W.Frag} {mg : Str → Option Value} {base : Heap} {CX : CXT} {L N : Nat} {f : Addr} {fd : FuncData} {ps : List Str} {sp : Nat → Sp} (h : ∀ m, m < N → FnOk P w K mg base CX (L + m + 1) f fd ps (sp m)) :
    FnOk P w K mg base CX (L + N) f fd ps (below N sp) :=
  ⟨fun vs H Q E ⟨m, hm, q⟩ => (h m hm).len vs H Q E q, fun A outer s H args us vs Q E hr he hb hv ⟨m, hm, q⟩ => (h m hm).run A outer s H args us vs Q E (hr.mono (by omega)) he hb hv q⟩
theorem rec_ok {P : Program} {w : World} {K : PySem.W.Frag} {mg : Str → Option Value} {base : Heap} {CX : CXT} {L : Nat} {f : Addr} {fd : FuncData} {ps : List Str} {sp : Nat → Sp}
    (h : ∀ n, (∀ m, m < n → FnOk P w K mg base CX (L + m + 1) f fd ps (sp m)) → FnOk P w K mg base CX (L + n + 1) f fd ps (sp n)) : ∀ n, FnOk P w K mg base CX (L + n + 1) f fd ps (sp n) := fun n =>
  Nat.strongRecOn n fun n ih => h n ih
end L2

set_option Elab.async false
set_option linter.all false
set_option maxRecDepth 100000
set_option maxHeartbeats 4000000
/-! Own rules: == and != of lists and tuples within one another; is True, is False. -/
namespace L2
open PySem PySem.Spec PyProof.Rows
/-- x == y is b, at most n deep -/
inductive EqD (K : PySem.W.Frag) (H : Hp) : Nat → V → V → Bool → Prop
  | flat {n : Nat} {x y : V} (fx : flatV x = true) (fy : flatV y = true) : EqD K H n x y (eqV x y)
  | same {n : Nat} {a : Addr} : EqD K H n (.ref a) (.ref a) true
  | lst {n : Nat} {a b : Addr} {xs ys : List V} {e : Nat → Bool} (ne : a ≠ b) (ha : SqL K H a xs) (hb : SqL K H b ys) (hl : xs.length = ys.length)
      (hi : ∀ j x y, xs[j]? = some x → ys[j]? = some y → EqD K H n x y (e j)) : EqD K H (n + 1) (.ref a) (.ref b) ((List.range xs.length).all e)
  | lstN {n : Nat} {a b : Addr} {xs ys : List V} (ne : a ≠ b) (ha : SqL K H a xs) (hb : SqL K H b ys) (hl : xs.length ≠ ys.length) : EqD K H (n + 1) (.ref a) (.ref b) false
  | tup {n : Nat} {a b : Addr} {xs ys : List V} {e : Nat → Bool} (ne : a ≠ b) (ha : SqT K H a xs) (hb : SqT K H b ys)
      (hi : ∀ j x y, xs[j]? = some x → ys[j]? = some y → EqD K H n x y (e j)) : EqD K H (n + 1) (.ref a) (.ref b) ((List.range (min xs.length ys.length)).all e && xs.length == ys.length)
theorem EqD.lstT {K : PySem.W.Frag} {H : Hp} {n : Nat} {a b : Addr} {xs ys : List V} (ne : a ≠ b) (ha : SqL K H a xs) (hb : SqL K H b ys) (hl : xs.length = ys.length) (hi : ∀ (j : Nat) (x y : V), xs[j]? = some x → ys[j]? = some y → EqD K H n x y true) : EqD K H (n + 1) (.ref a) (.ref b) true := by
  have h := EqD.lst (e := fun _ => true) ne ha hb hl hi
  have e (k : Nat) : (List.range k).all (fun _ => true) = true := List.all_eq_true.mpr fun _ _ => rfl
  rw [e] at h
  exact h
section
variable {X : Cx} {pins : List (Addr × Obj)} {σ : St} {H : Hp} {s : Shared}
theorem at_get {xs : List V} {us : List Value} (r : Vals xs us) {j : Nat} (h : j < us.toArray.size) : ∃ x, xs[j]? = some x ∧ RelV x us.toArray[j] := by
  have h' : j < us.length := by simpa using h
  have hx : j < xs.length := by rw [r.length]; exact h'
  obtain ⟨u, eu, ru⟩ := r.get (List.getElem?_eq_getElem hx)
  rw [List.getElem?_eq_getElem h'] at eu
  exact ⟨_, List.getElem?_eq_getElem hx, by
    have : us.toArray[j] = u := by simpa using eu
    rw [this]; exact ru⟩
theorem EqD.at_ {n : Nat} {x y : V} {b : Bool} (d : EqD X.K H n x y b) : ∀ {A : Around} {u v : Value}, A.units + n < cLine → Inv X pins σ H s → RelV x u → RelV y v → SeqAt.EqAt A s u v b := by
  induction d with
  | flat fx fy => intro A u v _ I ru rv; exact eqAt_V ru rv fx fy
  | same =>
    intro A u v _ I ru rv
    cases (show u = Value.ref _ from ru)
    cases (show v = Value.ref _ from rv)
    exact SeqAt.EqAt.same _
  | @lst n a b xs ys e ne ha hb hl hi ih =>
    intro A u v hu I ru rv
    cases (show u = Value.ref _ from ru)
    cases (show v = Value.ref _ from rv)
    obtain ⟨us, r, pl, _⟩ := I.list ha
    obtain ⟨vs, r', pl', _⟩ := I.list hb
    have l1 := r.length
    have l2 := r'.length
    have z := SeqAt.RcAt.lists (A := A) (e := e) pl.isList pl'.isList (by simp; omega) (by omega) fun j h1 h2 => by
      obtain ⟨x, ex, rx⟩ := at_get r h1
      obtain ⟨y, ey, ry⟩ := at_get r' h2
      exact ih j x y ex ey (A := A.in1) (by show A.units + 1 + n < cLine; omega) I rx ry
    rw [show us.toArray.size = xs.length by simp; omega] at z
    exact .of_refs ne z
  | @lstN n a b xs ys ne ha hb hl =>
    intro A u v hu I ru rv
    cases (show u = Value.ref _ from ru)
    cases (show v = Value.ref _ from rv)
    obtain ⟨us, r, pl, _⟩ := I.list ha
    obtain ⟨vs, r', pl', _⟩ := I.list hb
    have l1 := r.length
    have l2 := r'.length
    exact .of_refs ne (SeqAt.RcAt.lists_lengths pl.isList pl'.isList (by simp; omega) (by omega))
  | @tup n a b xs ys e ne ha hb hi ih =>
    intro A u v hu I ru rv
    cases (show u = Value.ref _ from ru)
    cases (show v = Value.ref _ from rv)
    obtain ⟨us, r, pl, _⟩ := I.tuple ha
    obtain ⟨vs, r', pl', _⟩ := I.tuple hb
    have l1 := r.length
    have l2 := r'.length
    have z := SeqAt.RcAt.tuples (A := A) (e := e) pl pl' (by omega) fun j h1 h2 => by
      obtain ⟨x, ex, rx⟩ := at_get r h1
      obtain ⟨y, ey, ry⟩ := at_get r' h2
      exact ih j x y ex ey (A := A.in1) (by show A.units + 1 + n < cLine; omega) I rx ry
    rw [show us.toArray.size = xs.length by simp; omega, show vs.toArray.size = ys.length by simp; omega] at z
    exact .of_refs ne z
/-- == by a derivation; for unlike objects (top level) -/
noncomputable def rEqD (K : PySem.W.Frag) (neg : Bool) : R2 := fun x y H Q => ∃ n b, n ≤ 100 ∧ EqD K H n x y b ∧ (∃ a c, x = .ref a ∧ y = .ref c ∧ a ≠ c) ∧ Q (.bl (if neg then !b else b)) H
theorem op_eqD (hu : X.A.units + 100 < cLine) : OpR X (compareOp .Eq) (rEqD X.K false) := by
  intro pins s σ H x y u v Q I ru rv h
  obtain ⟨n, b, hn, d, ⟨a, c, rfl, rfl, hne⟩, q⟩ := h
  cases (show u = Value.ref _ from ru)
  cases (show v = Value.ref _ from rv)
  cases d with
  | flat fx _ => cases fx
  | same => exact absurd rfl hne
  | @lst n _ _ xs ys e ne ha hb hl hi =>
    obtain ⟨us, r, pl, _⟩ := I.list ha
    obtain ⟨vs, r', pl', _⟩ := I.list hb
    have l1 := r.length
    have l2 := r'.length
    refine SeqAt.eq_listAt (e := e) pl.isList pl'.isList (by simp; omega) (by omega) (fun j h1 h2 => ?_) ⟨.bl _, H, I, rfl, ?_⟩
    · obtain ⟨x, ex, rx⟩ := at_get r h1
      obtain ⟨y, ey, ry⟩ := at_get r' h2
      exact (hi j x y ex ey).at_ (A := X.A.in1) (by show X.A.units + 1 + n < cLine; omega) I rx ry
    · rw [show us.toArray.size = xs.length by simp; omega]; exact q
  | @lstN n _ _ xs ys ne ha hb hl =>
    obtain ⟨us, r, pl, _⟩ := I.list ha
    obtain ⟨vs, r', pl', _⟩ := I.list hb
    have l1 := r.length
    have l2 := r'.length
    exact SeqAt.eq_list_lengthsAt pl.isList pl'.isList (by simp; omega) (by omega) ⟨.bl false, H, I, rfl, q⟩
  | @tup n _ _ xs ys e ne ha hb hi =>
    obtain ⟨us, r, pl, _⟩ := I.tuple ha
    obtain ⟨vs, r', pl', _⟩ := I.tuple hb
    have l1 := r.length
    have l2 := r'.length
    refine SeqAt.eq_tupleAt (e := e) pl pl' (by omega) (fun j h1 h2 => ?_) ⟨.bl _, H, I, rfl, ?_⟩
    · obtain ⟨x, ex, rx⟩ := at_get r h1
      obtain ⟨y, ey, ry⟩ := at_get r' h2
      exact (hi j x y ex ey).at_ (A := X.A.in1) (by show X.A.units + 1 + n < cLine; omega) I rx ry
    · rw [show us.toArray.size = xs.length by simp; omega, show vs.toArray.size = ys.length by simp; omega]; exact q
theorem hu100 {A : Around} {k : Nat} (hr : Room k A) : A.units + 100 < cLine := Nat.lt_of_le_of_lt (by omega) hr.un
end
end L2

set_option Elab.async false
set_option linter.all false
set_option maxRecDepth 100000
set_option maxHeartbeats 4000000
/-! Own rules: list.insert, list.remove, min and max of a list of ints, enumerate. -/
namespace L2
open PySem PySem.Spec PyProof.Rows
section
variable {X : Cx}
end
/-! ### enumerate -/
section
variable {X : Cx} {pins : List (Addr × Obj)} {σ : St} {H : Hp} {s : Shared} {h' : Heap}
end
section
variable {X : Cx}
end
end L2

set_option Elab.async false
set_option linter.all false
set_option maxRecDepth 100000
set_option maxHeartbeats 4000000
/-! Lists and tuples of ints within one another, as they lie in the heap. -/
namespace Ck
open PySem L2
inductive Tree where
  | int (i : Int)
  | lst (l : List Tree)
  | tup (l : List Tree)
mutual
noncomputable def Rep (H : Hp) : Tree → V → Prop
  | .int i, v => v = .int i
  | .lst ts, v => ∃ a xs, v = .ref a ∧ H a = some (.lst xs) ∧ ts.length ≤ 1000000 ∧ RepL H ts xs
  | .tup ts, v => ∃ a xs, v = .ref a ∧ H a = some (.tup xs) ∧ ts.length ≤ 1000000 ∧ RepL H ts xs
noncomputable def RepL (H : Hp) : List Tree → List V → Prop
  | [], xs => xs = []
  | t :: ts, xs => ∃ v vs, xs = v :: vs ∧ Rep H t v ∧ RepL H ts vs
end
mutual
noncomputable def dep : Tree → Nat
  | .int _ => 0
  | .lst ts => depL ts + 1
  | .tup ts => depL ts + 1
noncomputable def depL : List Tree → Nat
  | [] => 0
  | t :: ts => max (dep t) (depL ts)
end
mutual
theorem Rep.same {H H' : Hp} (s : Same H H') : ∀ (t : Tree) {v : V}, Rep H t v → Rep H' t v
  | .int i, v, h => by unfold Rep at h ⊢; exact h
  | .lst ts, v, h => by
    unfold Rep at h ⊢
    obtain ⟨a, xs, e, ha, hl, r⟩ := h
    exact ⟨a, xs, e, s _ _ ha, hl, RepL.same s ts r⟩
  | .tup ts, v, h => by
    unfold Rep at h ⊢
    obtain ⟨a, xs, e, ha, hl, r⟩ := h
    exact ⟨a, xs, e, s _ _ ha, hl, RepL.same s ts r⟩
theorem RepL.same {H H' : Hp} (s : Same H H') : ∀ (ts : List Tree) {xs : List V}, RepL H ts xs → RepL H' ts xs
  | [], xs, h => by unfold RepL at h ⊢; exact h
  | t :: ts, xs, h => by
    unfold RepL at h ⊢
    obtain ⟨v, vs, e, r, rs⟩ := h
    exact ⟨v, vs, e, Rep.same s t r, RepL.same s ts rs⟩
end
theorem RepL.length {H : Hp} : ∀ {ts : List Tree} {xs : List V}, RepL H ts xs → xs.length = ts.length
  | [], xs, h => by unfold RepL at h; rw [h]; rfl
  | t :: ts, xs, h => by
    unfold RepL at h
    obtain ⟨v, vs, rfl, _, rs⟩ := h
    rw [List.length_cons, List.length_cons, RepL.length rs]
theorem RepL.get {H : Hp} : ∀ {ts : List Tree} {xs : List V}, RepL H ts xs → ∀ {j : Nat} {x : V}, xs[j]? = some x → ∃ t, ts[j]? = some t ∧ Rep H t x
  | [], xs, h, j, x, e => by unfold RepL at h; rw [h] at e; cases e
  | t :: ts, xs, h, j, x, e => by
    unfold RepL at h
    obtain ⟨v, vs, rfl, r, rs⟩ := h
    cases j with
    | zero =>
      have : v = x := by simpa using e
      subst this
      exact ⟨t, rfl, r⟩
    | succ j => exact RepL.get rs (by simpa using e)
theorem depL_mem : ∀ {ts : List Tree} {j : Nat} {t : Tree}, ts[j]? = some t → dep t ≤ depL ts
  | [], j, t, e => by cases e
  | s :: ts, j, t, e => by
    unfold depL
    cases j with
    | zero =>
      have : s = t := by simpa using e
      subst this
      exact Nat.le_max_left _ _
    | succ j => exact Nat.le_trans (depL_mem (by simpa using e)) (Nat.le_max_right _ _)
theorem rep_two {H : Hp} {a : Addr} {x y : V} {t u : Tree} (h : H a = some (.tup [x, y])) (r1 : Rep H t x) (r2 : Rep H u y) : Rep H (.tup [t, u]) (.ref a) := by
  unfold Rep
  refine ⟨a, _, rfl, h, by show 2 ≤ 1000000; decide, ?_⟩
  unfold RepL
  refine ⟨_, _, rfl, r1, ?_⟩
  unfold RepL
  refine ⟨_, _, rfl, r2, ?_⟩
  unfold RepL
  rfl
theorem dep_two (t u : Tree) : dep (.tup [t, u]) = max (dep t) (dep u) + 1 := by
  show max (dep t) (max (dep u) 0) + 1 = _
  rw [Nat.max_zero]
/-! ### lists of pairs -/
noncomputable abbrev Pair := Int × Int
end Ck
namespace L2
open PySem
theorem kit_list_int {K : PySem.W.Frag} : PySem.W.kitOne K (.type "list") (.type "int") = some false := by rfl
theorem kit_tuple_int {K : PySem.W.Frag} : PySem.W.kitOne K (.type "tuple") (.type "int") = some false := by rfl
theorem kit_tuple_list {K : PySem.W.Frag} : PySem.W.kitOne K (.type "tuple") (.type "list") = some false := by rfl
theorem kit_tuple_tuple {K : PySem.W.Frag} : PySem.W.kitOne K (.type "tuple") (.type "tuple") = some true := by rfl
end L2

set_option Elab.async false
set_option linter.all false
set_option maxRecDepth 100000
set_option maxHeartbeats 4000000
/-! Numbers laid on a pile and taken off it; rows of ints as trees. -/
namespace Ck
open PySem L2
/-- a row of ints as a tree -/
noncomputable def rowT (ns : List Int) : Tree := .lst (ns.map .int)
theorem repL_row {H : Hp} : ∀ ns : List Int, RepL H (ns.map .int) (ns.map V.int)
  | [] => by unfold List.map RepL; rfl
  | n :: ns => by
    rw [List.map_cons, List.map_cons]
    unfold RepL
    exact ⟨_, _, rfl, by unfold Rep; rfl, repL_row ns⟩
theorem rep_row {H : Hp} {a : Addr} {ns : List Int} (h : H a = some (.lst (ns.map V.int))) (hl : ns.length ≤ 1000000) : Rep H (rowT ns) (.ref a) := by
  unfold rowT Rep
  exact ⟨a, _, rfl, h, by rw [List.length_map]; exact hl, repL_row ns⟩
theorem depL_row : ∀ ns : List Int, depL (ns.map .int) = 0
  | [] => by unfold List.map depL; rfl
  | n :: ns => by
    rw [List.map_cons]
    unfold depL
    rw [depL_row ns]
    unfold dep
    rfl
theorem dep_row (ns : List Int) : dep (rowT ns) = 1 := by unfold rowT dep; rw [depL_row]
theorem cutV_from (xs : List V) (k : Nat) : cutV xs (some (k : Int)) none = xs.drop k := by
  unfold cutV
  rw [HT.sIx_nat, HT.sIx_none]
  rw [List.take_of_length_le (by rw [List.length_drop]; omega)]
  by_cases h : k ≤ xs.length
  · rw [show min k xs.length = k by omega]
  · rw [List.drop_eq_nil_of_le (show xs.length ≤ k by omega), List.drop_eq_nil_of_le (by omega)]
theorem _root_.L2.EqD.rowT {K : PySem.W.Frag} {H : Hp} {n : Nat} {ws : List Int} {j : Nat} {x y : V} (ex : (ws.map V.int)[j]? = some x) (ey : (ws.map V.int)[j]? = some y) : EqD K H n x y true := by
  rw [ex] at ey
  cases ey
  obtain ⟨c, rfl⟩ := get_int ex
  have h := EqD.flat (K := K) (H := H) (n := n) (x := .int c) (y := .int c) rfl rfl
  rw [show eqV (.int c) (.int c) = true from decide_eq_true rfl] at h
  exact h
end Ck

set_option Elab.async false
set_option linter.all false
set_option maxRecDepth 100000
set_option maxHeartbeats 4000000
/-! Own rules: list.index; a comprehension whose turns write to the heap; slices with two ends. -/
namespace L2
open PySem PySem.Spec PyProof.Rows PySem.SeqAt
section
variable {X : Cx}
/-- over a list that stays; the turns may write to the heap and leave items out -/
theorem comp_walk {K : PySem.W.Frag} {a : Addr} {xs : List V} {g : TG} {tt : TT} {te : TE} {σ0 : St} {H : Hp} {D : Addr} {Q : VK} (Pv : Nat → List V → Hp → Prop) (hz : xs.length ≤ sizeLine)
    (h0 : Pv 0 [] (upd H D (.lst []))) (hl : ∀ i ys H', i ≤ xs.length → Pv i ys H' → SqL K H' a xs ∧ ys.length ≤ i)
    (hs : ∀ (i : Nat) (x : V) (ys : List V) (H' : Hp) (R : VK) (R0 : Hp → Prop), xs[i]? = some x → Pv i ys H' → (∀ v H3, H3 D = some (.lst ys) → Pv (i + 1) (ys ++ [v]) (upd H3 D (.lst (ys ++ [v]))) → R v H3) → (∀ H3, Pv (i + 1) ys H3 → R0 H3) →
      g x σ0 H' fun σ2 H2 => Ext σ0 σ2 ∧ tt σ2 H2 fun b H3 => if b = true then te σ2 H3 R else R0 H3)
    (hq : ∀ ys H', Pv xs.length ys H' → Q (.ref D) H') :
    CompW (Itl K a) g tt te σ0 D Q H := by
  refine ⟨fun i m ys H' => m = xs.length - i ∧ i ≤ xs.length ∧ Pv i ys H', ⟨xs.length, by simp, Nat.zero_le _, h0⟩, ?_⟩
  rintro i m ys H' ⟨rfl, hi, p⟩
  obtain ⟨sq, ly⟩ := hl i ys H' hi p
  by_cases hlt : i < xs.length
  · refine .inr ⟨⟨xs, xs[i], sq, by simp [hlt]⟩, fun x H'' y => ?_⟩
    obtain ⟨e, y⟩ := y
    subst e
    have ex := y xs sq
    refine hs i x ys _ _ _ ex p (fun v H3 hD p' => ⟨hD, by omega, xs.length - (i + 1), by omega, rfl, hlt, p'⟩) fun H3 p' => ⟨xs.length - (i + 1), by omega, rfl, hlt, p'⟩
  · have e : i = xs.length := by omega
    subst e
    exact .inl ⟨⟨xs, sq, Nat.le_refl _⟩, hq ys H' p⟩
end
end L2
namespace Ck
open PySem L2
end Ck
namespace Ck
open PySem L2
/-- the fields of a family -/
structure Flds (fs : List (Str × V)) (w : Str) (l : Int) : Prop where
  word : fs.lookup ("word" : Str) = some (.str w)
  least : fs.lookup ("least" : Str) = some (.int l)
  no : ∀ m : Str, m ≠ ("word" : Str) → m ≠ ("least" : Str) → fs.lookup m = none
theorem flds_mk (w : Str) (l : Int) : Flds (putF ("least" : Str) (.int l) (putF ("word" : Str) (.str w) [])) w l :=
  ⟨by rw [lookup_putF, if_neg (by decide), lookup_putF, if_pos rfl], by rw [lookup_putF, if_pos rfl], fun m a b => by rw [lookup_putF, if_neg b, lookup_putF, if_neg a]; rfl⟩
/-! ### pairs raised -/
noncomputable def up (d : Int) (p : Pair) : Pair := (p.1 + d, p.2 + d)
end Ck
namespace Ck
open PySem L2
end Ck
namespace Ck
open PySem L2
end Ck

set_option Elab.async false
set_option linter.all false
set_option maxRecDepth 100000
set_option maxHeartbeats 4000000
/-! Own rules: sorted of ints (fewer than 64), in and not in, all of truths, a comprehension over enumerate. -/
namespace L2
open PySem PySem.Spec PyProof.Rows
theorem bb_sorted : bootBuiltins "sorted" = some (.builtin "sorted") := by decide +kernel
section
variable {X : Cx}
end
end L2
namespace Ck
open PySem L2
end Ck

set_option Elab.async false
set_option linter.all false
set_option maxRecDepth 100000
set_option maxHeartbeats 4000000
/-! Rows of cars: counted, sorted, parked. -/
namespace Ck
open PySem L2
end Ck

set_option Elab.async false
set_option linter.all false
set_option maxRecDepth 100000
set_option maxHeartbeats 4000000
/-! Turned round a ring, just one row of wishes is a row of cars. -/
namespace Ck
open PySem L2
end Ck
namespace Ck
open PySem L2
/-- the steps of a row of wishes -/
noncomputable def steps (ws : List Int) : List Int := (List.range (ws.length - 1)).map fun (i : Nat) => (ws.getD (i + 1) 0 - ws.getD i 0) % ((ws.length : Int) + 1)
end Ck

set_option Elab.async false
set_option linter.all false
set_option maxRecDepth 100000
set_option maxHeartbeats 4000000
/-! For laws that look at things: the one refusal NoThing; small facts. -/
namespace L2
open PySem PySem.W
end L2
namespace Ck
open PySem L2
theorem ne_int {a b : Int} (h : a ≠ b) : ¬ V.int a = V.int b := fun z => h (by injection z)
end Ck
namespace Ck
end Ck

set_option Elab.async false
set_option linter.all false
set_option maxRecDepth 100000
set_option maxHeartbeats 4000000
/-! Trees told by elders. -/
namespace Ck
open PySem L2
end Ck
namespace Ck
open PySem L2
theorem dec_int (a b : Int) : decide (V.int a = V.int b) = decide (a = b) := by
  by_cases h : a = b
  · rw [decide_eq_true h, decide_eq_true (by rw [h])]
  · rw [decide_eq_false h, decide_eq_false (ne_int h)]
end Ck
namespace Ck
end Ck
namespace Ck
open PySem L2
end Ck

set_option Elab.async false
set_option linter.all false
set_option maxRecDepth 100000
set_option maxHeartbeats 4000000
/-! Own rules: list(range(..)). -/
namespace L2
open PySem PySem.Spec PyProof.Rows
section
variable {X : Cx}
end
end L2
namespace L2
open PySem PySem.Spec PyProof.Rows
end L2
namespace L2
open PySem PySem.Spec PyProof.Rows
theorem call_len_seqK {X : Cx} {K : PySem.W.Frag} (hK : X.K = K) : CallR X (.builtin "len") (fun xs H Q => ∃ a ys, xs = [.ref a] ∧ (SqL K H a ys ∨ SqT K H a ys) ∧ Q (.int ys.length) H) := by
  subst hK
  exact call_len_seq
end L2

set_option Elab.async false
set_option linter.all false
set_option maxRecDepth 100000
set_option maxHeartbeats 4000000
/-! A tree of questions that sorts: answered by an order, what it tells rises. -/
namespace L2
open PySem PySem.Spec PyProof.Rows PySem.W
/-- every question is about numbers below n, and is answered by lt -/
noncomputable def pw {α : Type} (n : Nat) (lt : Nat → Nat → Bool) : KasT α → (α → Prop) → Prop
  | .ret a, Q => Q a
  | .ask i j k, Q => i < n ∧ j < n ∧ pw n lt (k (lt i j)) Q
theorem pw_bind {α β : Type} {n : Nat} {lt : Nat → Nat → Bool} {f : α → KasT β} {Q : β → Prop} : ∀ {t : KasT α}, pw n lt t (fun a => pw n lt (f a) Q) → pw n lt (t.bind f) Q
  | .ret _, h => h
  | .ask _ _ _, h => ⟨h.1, h.2.1, pw_bind h.2.2⟩
theorem pw_mono {α : Type} {n : Nat} {lt : Nat → Nat → Bool} {Q Q' : α → Prop} (m : ∀ a, Q a → Q' a) : ∀ {t : KasT α}, pw n lt t Q → pw n lt t Q'
  | .ret a, h => m a h
  | .ask _ _ _, h => ⟨h.1, h.2.1, pw_mono m h.2.2⟩
theorem pw_wp {α : Type} {n : Nat} {lt : Nat → Nat → Bool} {Q : α → Prop} {s : Shared} {cmp : Nat → Nat → (Bool → Shared → Prop) → Shared → Prop}
    (hc : ∀ (i j : Nat) (C : Bool → Shared → Prop), i < n → j < n → C (lt i j) s → cmp i j C s) : ∀ {t : KasT α}, pw n lt t Q → t.kasWp cmp (fun a s' => s' = s ∧ Q a) s
  | .ret _, h => ⟨rfl, h⟩
  | .ask i j k, h => hc i j (fun b s' => (k b).kasWp cmp (fun a s' => s' = s ∧ Q a) s') h.1 h.2.1 (pw_wp hc h.2.2)
/-- an order by what is not less -/
structure Ordr (lt : Nat → Nat → Bool) : Prop where
  asym : ∀ a b, lt a b = true → lt b a = false
  ntr : ∀ a b c, lt b a = false → lt c b = false → lt c a = false
/-- the number at a place -/
noncomputable abbrev gA (p : Array Nat) (k : Nat) : Nat := p.getD k 0
noncomputable def OkP (n : Nat) (p : Array Nat) : Prop := p.toList.Perm (List.range n)
theorem OkP.size {n : Nat} {p : Array Nat} (h : OkP n p) : p.size = n := by
  have := h.length_eq
  rw [List.length_range] at this
  simpa using this
theorem OkP.lt {n : Nat} {p : Array Nat} (h : OkP n p) (hn : 0 < n) (k : Nat) : gA p k < n := by
  unfold gA
  by_cases hk : k < p.size
  · have e : p.getD k 0 = p[k] := by simp [hk]
    rw [e]
    exact List.mem_range.mp (h.mem_iff.mp (Array.getElem_mem_toList hk))
  · have e : p.getD k 0 = 0 := by simp [hk]
    rw [e]; exact hn
theorem gA_mir {p : Array Nat} {i j : Nat} (hj : j ≤ p.size) (k : Nat) : gA (kas_rev p i j) k = if i ≤ k ∧ k < j then gA p (i + j - 1 - k) else gA p k := by
  unfold gA kas_rev
  rw [Array.getD_eq_getD_getElem?, getElem?_mirror_all hj k]
  split
  · rw [← Array.getD_eq_getD_getElem?]
  · rw [← Array.getD_eq_getD_getElem?]
theorem gA_bub {p : Array Nat} {src d : Nat} (hs : src < p.size) (hd : d ≤ src) (k : Nat) : gA (bubble p src d) k = if k = src - d then gA p src else if src - d < k ∧ k ≤ src then gA p (k - 1) else gA p k := by
  unfold gA
  rw [Array.getD_eq_getD_getElem?, getElem?_bubble hs d hd k]
  split
  · simp [hs]
  · split
    · rw [← Array.getD_eq_getD_getElem?]
    · rw [← Array.getD_eq_getD_getElem?]
theorem OkP.rev {n : Nat} {p : Array Nat} (h : OkP n p) (i j : Nat) : OkP n (kas_rev p i j) := (Array.perm_iff_toList_perm.mp (mirror_perm p i j _)).trans h
theorem OkP.bub {n : Nat} {p : Array Nat} (h : OkP n p) (i j : Nat) : OkP n (bubble p i j) := (Array.perm_iff_toList_perm.mp (bubble_perm p i j)).trans h
section
variable {n : Nat} {lt : Nat → Nat → Bool} (O : Ordr lt)
/-- rising, falling, alike -/
noncomputable def Ris (lt : Nat → Nat → Bool) (p : Array Nat) (k : Nat) : Prop := ∀ i j, i ≤ j → j < k → lt (gA p j) (gA p i) = false
noncomputable def Fal (lt : Nat → Nat → Bool) (p : Array Nat) (k : Nat) : Prop := ∀ i j, i ≤ j → j < k → lt (gA p i) (gA p j) = false
noncomputable def Alk (lt : Nat → Nat → Bool) (a b : Nat) : Prop := lt a b = false ∧ lt b a = false
include O
theorem Ordr.irr (a : Nat) : lt a a = false := by
  cases h : lt a a with
  | false => rfl
  | true => exact h.symm.trans (O.asym a a h)
theorem Ordr.alk (a : Nat) : Alk lt a a := ⟨O.irr a, O.irr a⟩
theorem Ordr.alkT {a b c : Nat} (x : Alk lt a b) (y : Alk lt b c) : Alk lt a c := ⟨O.ntr c b a y.1 x.1, O.ntr a b c x.2 y.2⟩
theorem Ordr.up {a b c : Nat} (x : lt a b = true) (y : lt c b = false) : lt a c = true := by
  cases h : lt a c with
  | true => rfl
  | false => exact (x.symm.trans (O.ntr b c a y h)).symm ▸ rfl
theorem Ris.one (p : Array Nat) : Ris lt p 1 := fun i j h1 h2 => by
  have e : i = j := by omega
  subst e
  exact O.irr _
theorem Fal.one (p : Array Nat) : Fal lt p 1 := fun i j h1 h2 => by
  have e : i = j := by omega
  subst e
  exact O.irr _
theorem Ris.snoc {p : Array Nat} {m : Nat} (h1 : 1 ≤ m) (h : Ris lt p m) (c : lt (gA p m) (gA p (m - 1)) = false) : Ris lt p (m + 1) := fun i j ij jm => by
  by_cases hj : j < m
  · exact h i j ij hj
  · have e : j = m := by omega
    subst e
    by_cases hi : i = j
    · subst hi; exact O.irr _
    · exact O.ntr _ _ _ (h i (j - 1) (by omega) (by omega)) c
theorem Fal.snoc {p : Array Nat} {m : Nat} (h1 : 1 ≤ m) (h : Fal lt p m) (c : lt (gA p (m - 1)) (gA p m) = false) : Fal lt p (m + 1) := fun i j ij jm => by
  by_cases hj : j < m
  · exact h i j ij hj
  · have e : j = m := by omega
    subst e
    by_cases hi : i = j
    · subst hi; exact O.irr _
    · exact O.ntr _ _ _ c (h i (j - 1) (by omega) (by omega))
theorem Fal.alk {p p' : Array Nat} {m : Nat} (h : Fal lt p m) (e : ∀ k, k < m → Alk lt (gA p' k) (gA p k)) : Fal lt p' m := fun i j ij jm =>
  O.ntr _ _ _ (e j jm).2 (O.ntr _ _ _ (h i j ij jm) (e i (by omega)).1)
theorem pw_asc {p : Array Nat} (hp : OkP n p) {N : Nat} (hN : N ≤ n) : ∀ (f m : Nat), 1 ≤ m → m + f = N → Ris lt p m → pw n lt (kas_asc p f m) (fun r => m ≤ r ∧ r ≤ N ∧ Ris lt p r ∧ (r < N → lt (gA p r) (gA p (r - 1)) = true))
  | 0, m, h1, h2, h => ⟨Nat.le_refl _, by omega, h, fun z => absurd z (by omega)⟩
  | f + 1, m, h1, h2, h => by
    refine ⟨hp.lt (by omega) _, hp.lt (by omega) _, ?_⟩
    show pw n lt (if lt (gA p m) (gA p (m - 1)) = true then _ else _) _
    cases c : lt (gA p m) (gA p (m - 1)) with
    | true =>
      rw [if_pos rfl]
      exact ⟨Nat.le_refl _, by omega, h, fun _ => c⟩
    | false =>
      rw [if_neg (by decide)]
      exact pw_mono (fun r hr => ⟨by omega, hr.2⟩) (pw_asc hp hN f (m + 1) (by omega) (by omega) (h.snoc O h1 c))
theorem pw_desc {N : Nat} (hN : N ≤ n) : ∀ (f : Nat) (p : Array Nat) (m q : Nat), OkP n p → q + 1 ≤ m → m + f = N → Fal lt p m → (∀ i, m - 1 - q ≤ i → i < m → Alk lt (gA p i) (gA p (m - 1))) →
    pw n lt (kas_desc f p m q) (fun r => OkP n r.1 ∧ r.2.2 + 1 ≤ r.2.1 ∧ r.2.1 ≤ N ∧ Fal lt r.1 r.2.1 ∧ ∀ i, r.2.1 - 1 - r.2.2 ≤ i → i < r.2.1 → Alk lt (gA r.1 i) (gA r.1 (r.2.1 - 1)))
  | 0, p, m, q, hp, hq, h2, h, al => ⟨hp, hq, by show m ≤ N; omega, h, al⟩
  | f + 1, p, m, q, hp, hq, h2, h, al => by
    have hs := hp.size
    refine ⟨hp.lt (by omega) _, hp.lt (by omega) _, ?_⟩
    show pw n lt (if lt (gA p m) (gA p (m - 1)) = true then _ else _) _
    cases c : lt (gA p m) (gA p (m - 1)) with
    | true =>
      rw [if_pos rfl]
      by_cases q0 : q > 0
      · rw [if_pos q0]
        have e : ∀ k, gA (kas_rev p (m - (q + 1)) m) k = if m - (q + 1) ≤ k ∧ k < m then gA p (m - (q + 1) + m - 1 - k) else gA p k := fun k => gA_mir (by omega) k
        have ek : ∀ k, k < m → Alk lt (gA (kas_rev p (m - (q + 1)) m) k) (gA p k) := fun k hk => by
          rw [e k]
          split
          · have z1 := al (m - (q + 1) + m - 1 - k) (by omega) (by omega)
            have z2 := al k (by omega) hk
            exact O.alkT z1 ⟨z2.2, z2.1⟩
          · exact O.alk _
        have em : gA (kas_rev p (m - (q + 1)) m) m = gA p m := by rw [e m, if_neg (by omega)]
        refine pw_desc hN f _ (m + 1) 0 (hp.rev _ _) (by omega) (by omega) ((h.alk O ek).snoc O (by omega) ?_) (fun i i1 i2 => ?_)
        · rw [em]
          have := (ek (m - 1) (by omega)).1
          exact O.ntr _ _ _ (O.asym _ _ c) this
        · have : i = m := by omega
          subst this
          exact O.alk _
      · rw [if_neg q0]
        refine pw_desc hN f p (m + 1) 0 hp (by omega) (by omega) (h.snoc O (by omega) (O.asym _ _ c)) (fun i i1 i2 => ?_)
        have : i = m := by omega
        subst this
        exact O.alk _
    | false =>
      rw [if_neg (by decide)]
      refine ⟨hp.lt (by omega) _, hp.lt (by omega) _, ?_⟩
      show pw n lt (if lt (gA p (m - 1)) (gA p m) = true then _ else _) _
      cases d : lt (gA p (m - 1)) (gA p m) with
      | true =>
        rw [if_pos rfl]
        exact ⟨hp, hq, by show m ≤ N; omega, h, al⟩
      | false =>
        rw [if_neg (by decide)]
        refine pw_desc hN f p (m + 1) (q + 1) hp (by omega) (by omega) (h.snoc O (by omega) d) (fun i i1 i2 => ?_)
        by_cases hi : i < m
        · exact O.alkT (al i (by omega) hi) ⟨d, c⟩
        · have : i = m := by omega
          subst this
          exact O.alk _
/-- what the count of a run tells -/
noncomputable def Cnt (n : Nat) (lt : Nat → Nat → Bool) (N : Nat) (r : Nat × Array Nat) : Prop := OkP n r.2 ∧ Ris lt r.2 r.1 ∧ 1 ≤ r.1 ∧ r.1 ≤ N
theorem pw_tail3 {N : Nat} (hN : N ≤ n) {p : Array Nat} {m : Nat} (hp : OkP n p) (h1 : 1 ≤ m) (hm : m ≤ N) (h : Fal lt p m) : pw n lt (kas_tail3 m N p) (Cnt n lt N) := by
  have hs := hp.size
  have e : ∀ k, k < m → gA (kas_rev p 0 m) k = gA p (m - 1 - k) := fun k hk => by
    rw [gA_mir (by omega), if_pos (by omega), Nat.zero_add]
  refine pw_bind (pw_mono (fun r hr => ?_) (pw_asc O (hp.rev 0 m) hN (N - m) m h1 (by omega) (fun i j ij jm => ?_)))
  · exact ⟨hp.rev 0 m, hr.2.2.1, by show 1 ≤ r; omega, hr.2.1⟩
  · rw [e i (by omega), e j jm]
    exact h _ _ (by omega) (by omega)
theorem pw_descPart {N : Nat} (hN : N ≤ n) {p : Array Nat} {m : Nat} (hp : OkP n p) (h1 : 1 ≤ m) (hm : m + 1 ≤ N) (h : Fal lt p m) (c : lt (gA p m) (gA p (m - 1)) = true) : pw n lt (kas_descPart m N p) (Cnt n lt N) := by
  refine pw_bind (pw_mono (fun r hr => ?_) (pw_desc O hN (N - (m + 1)) p (m + 1) 0 hp (by omega) (by omega) (h.snoc O h1 (O.asym _ _ c)) (fun i i1 i2 => ?_)))
  · obtain ⟨p', m', q'⟩ := r
    obtain ⟨ok, hq, hl, fa, al⟩ := hr
    have hs := ok.size
    dsimp only at hs hq hl fa al ⊢
    by_cases q0 : q' > 0
    · rw [if_pos q0]
      refine pw_tail3 O hN (ok.rev _ _) (by omega) hl (fa.alk O fun k hk => ?_)
      rw [gA_mir (by omega)]
      split
      · have z1 := al (m' - (q' + 1) + m' - 1 - k) (by omega) (by omega)
        have z2 := al k (by omega) hk
        exact O.alkT z1 ⟨z2.2, z2.1⟩
      · exact O.alk _
    · rw [if_neg q0]
      exact pw_tail3 O hN ok (by omega) hl fa
  · have : i = m := by omega
    subst this
    exact O.alk _
theorem pw_count {N : Nat} (hN : N ≤ n) (hN1 : 1 ≤ N) {p : Array Nat} (hp : OkP n p) : pw n lt (kas_count N p) (Cnt n lt N) := by
  have hs := hp.size
  refine pw_bind (pw_mono (fun m hm => ?_) (pw_asc O hp hN (N - 1) 1 (Nat.le_refl _) (by omega) (Ris.one O p)))
  obtain ⟨m1, mN, ri, st⟩ := hm
  by_cases e : m = N
  · subst e
    rw [if_pos (by simp)]
    exact ⟨hp, ri, m1, Nat.le_refl _⟩
  · rw [if_neg (by simpa using e)]
    have c := st (by omega)
    by_cases m2 : m > 1
    · rw [if_pos m2]
      refine ⟨hp.lt (by omega) _, hp.lt (by omega) _, ?_⟩
      show pw n lt (if lt (gA p 0) (gA p (m - 1)) = true then _ else _) _
      cases d : lt (gA p 0) (gA p (m - 1)) with
      | true =>
        rw [if_pos rfl]
        exact ⟨hp, ri, m1, mN⟩
      | false =>
        rw [if_neg (by decide)]
        have al : ∀ i, i < m → Alk lt (gA p i) (gA p 0) := fun i hi => ⟨ri 0 i (by omega) hi, O.ntr _ _ _ (ri i (m - 1) (by omega) (by omega)) d⟩
        have e : ∀ k, k < m → gA (kas_rev p 0 m) k = gA p (m - 1 - k) := fun k hk => by
          rw [gA_mir (by omega), if_pos (by omega), Nat.zero_add]
        refine pw_descPart O hN (hp.rev _ _) m1 (by omega) (fun i j ij jm => ?_) ?_
        · rw [e i (by omega), e j jm]
          have z1 := al (m - 1 - i) (by omega)
          have z2 := al (m - 1 - j) (by omega)
          exact (O.alkT z1 ⟨z2.2, z2.1⟩).1
        · rw [gA_mir (by omega), if_neg (by omega), e (m - 1) (by omega), show m - 1 - (m - 1) = 0 by omega]
          exact O.up c d
    · rw [if_neg m2]
      have em : m = 1 := by omega
      subst em
      exact pw_descPart O hN hp (Nat.le_refl _) (by omega) (Fal.one O p) c
theorem pw_place {p : Array Nat} (hp : OkP n p) {k : Nat} (hk : k < n) (h : Ris lt p k) : ∀ (f l r : Nat), l ≤ r → r ≤ k → r - l ≤ f → (∀ i, i < l → lt (gA p k) (gA p i) = false) → (∀ i, r ≤ i → i < k → lt (gA p k) (gA p i) = true) →
    pw n lt (kas_place p k f l r) (fun l' => l' ≤ k ∧ (∀ i, i < l' → lt (gA p k) (gA p i) = false) ∧ ∀ i, l' ≤ i → i < k → lt (gA p k) (gA p i) = true)
  | 0, l, r, h1, h2, h3, a, b => ⟨by omega, a, fun i i1 i2 => b i (by omega) i2⟩
  | f + 1, l, r, h1, h2, h3, a, b => by
    show pw n lt (if l ≥ r then _ else _) _
    by_cases e : l ≥ r
    · rw [if_pos e]
      exact ⟨by omega, a, fun i i1 i2 => b i (by omega) i2⟩
    · rw [if_neg e]
      refine ⟨hp.lt (by omega) _, hp.lt (by omega) _, ?_⟩
      show pw n lt (if lt (gA p k) (gA p ((l + r) / 2)) = true then _ else _) _
      cases c : lt (gA p k) (gA p ((l + r) / 2)) with
      | true =>
        rw [if_pos rfl]
        exact pw_place hp hk h f l ((l + r) / 2) (by omega) (by omega) (by omega) a fun i i1 i2 => O.up c (h _ i i1 i2)
      | false =>
        rw [if_neg (by decide)]
        exact pw_place hp hk h f ((l + r) / 2 + 1) r (by omega) h2 (by omega) (fun i hi => O.ntr _ _ _ (h i ((l + r) / 2) (by omega) (by omega)) c) b
theorem pw_bin : ∀ (f : Nat) (p : Array Nat) (k : Nat), OkP n p → k + f = n → Ris lt p k → pw n lt (kas_bin f p k) (fun p' => OkP n p' ∧ Ris lt p' n)
  | 0, p, k, hp, hk, h => by
    have : k = n := by omega
    subst this
    exact ⟨hp, h⟩
  | f + 1, p, k, hp, hk, h => by
    have hs := hp.size
    refine pw_bind (pw_mono (fun l hl => ?_) (pw_place O hp (by omega) h k 0 k (by omega) (Nat.le_refl _) (by omega) (fun i hi => absurd hi (by omega)) (fun i i1 i2 => absurd i1 (by omega))))
    obtain ⟨lk, lo, hi⟩ := hl
    refine pw_bin f _ (k + 1) (hp.bub _ _) (by omega) (fun i j ij jk => ?_)
    have e := fun x => gA_bub (p := p) (src := k) (d := k - l) (by omega) (by omega) x
    rw [e i, e j, show k - (k - l) = l by omega]
    by_cases j1 : j = l
    · subst j1
      rw [if_pos rfl]
      by_cases i1 : i = j
      · rw [if_pos i1]; exact O.irr _
      · rw [if_neg i1, if_neg (by omega)]
        exact lo i (by omega)
    · rw [if_neg j1]
      by_cases j2 : l < j ∧ j ≤ k
      · rw [if_pos j2]
        by_cases i1 : i = l
        · rw [if_pos i1]
          exact O.asym _ _ (hi (j - 1) (by omega) (by omega))
        · rw [if_neg i1]
          by_cases i2 : l < i ∧ i ≤ k
          · rw [if_pos i2]
            exact h _ _ (by omega) (by omega)
          · rw [if_neg i2]
            exact h _ _ (by omega) (by omega)
      · rw [if_neg j2, if_neg (by omega), if_neg (by omega)]
        exact h _ _ ij (by omega)
theorem pw_sort (h2 : 1 ≤ n) : pw n lt (kas_sort n) (fun p => OkP n p ∧ Ris lt p n) := by
  refine pw_bind (pw_mono (fun r hr => ?_) (pw_count O (Nat.le_refl n) h2 (p := List.toArray (List.range n)) (by unfold OkP; simp)))
  obtain ⟨m, p⟩ := r
  obtain ⟨ok, ri, m1, mn⟩ := hr
  dsimp only at ok ri m1 mn ⊢
  by_cases e : m < n
  · rw [if_pos e, Nat.max_eq_left m1]
    exact pw_bin O (n - m) p m ok (by omega) ri
  · rw [if_neg e]
    have : m = n := by omega
    subst this
    exact ⟨ok, ri⟩
end
end L2

set_option Elab.async false
set_option linter.all false
set_option maxRecDepth 100000
set_option maxHeartbeats 4000000
/-! sorted of what is compared without a write: of pairs of numbers. -/
namespace L2
open PySem PySem.Spec PyProof.Rows PySem.W Ck
section
variable {prog : Program} {w : World} {A : Around} {E : Value → Shared → Prop} {s : Shared}
/-- in this heap the sort asks, and is answered by lt -/
noncomputable def Asks (prog : Program) (w : World) (A : Around) (vs : List Value) (lt : Nat → Nat → Bool) (s1 : Shared) : Prop :=
  ∀ (Q : SortKind → Shared → Prop), (∀ κ, (∀ (i j : Nat) (C : Bool → Shared → Prop), i < vs.length → j < vs.length → C (lt i j) s1 → kas_ask prog w A κ vs i j C s1) → Q κ s1) → wpAny (model prog w) A (keyKind' vs.toArray) Q (fun _ _ => False) s1
noncomputable def outOf (vs : List Value) (p : Array Nat) : List Value := p.toList.map fun i => vs.getD i Value.none
theorem out_range (vs : List Value) : outOf vs (List.toArray (List.range vs.length)) = vs := by
  unfold outOf
  refine List.ext_getElem (by simp) fun i h1 h2 => ?_
  simp [h2]
theorem zip_snd (vs : List Value) : (vs.toArray.zip vs.toArray).map (·.2) = vs.toArray := by
  refine Array.ext (by simp) fun i h1 h2 => ?_
  simp
theorem sort_ask {a : Addr} {vs : List Value} {n : Nat} {P : PySem.Fin → Shared → Prop} {lt : Nat → Nat → Bool} (O : Ordr lt) (ho : s.heap.get? a = some (seqObj "list" vs.toArray n)) (h64 : vs.length < 64)
    (hk : ∀ h6 : Heap, (∀ b o, b ≠ a → s.heap.get? b = some o → h6.get? b = some o) → 2 ≤ vs.length → Asks prog w A vs lt { s with heap := h6 })
    (fin : ∀ p : Array Nat, OkP vs.length p → Ris lt p vs.length → P (.done (.ret .none)) { s with heap := sortedHeap s.heap a vs (outOf vs p).toArray }) : wpAny (model prog w) A (Builtin.«list.sort» ⟨[.ref a], []⟩) P E s := by
  have ha : a < s.heap.objs.size := Heap.lt_size ho
  have hz : vs.length ≤ sizeLine := by rw [sizeLine_eq]; omega
  obtain ⟨e1, ho1⟩ : ∃ e, (s.heap.update a (Obj.mapSeq fun _ => (#[] : Array Value))).get? a = some (seqObj "list" #[] e) := ⟨_, get?_update_seq ho _⟩
  have keep : ∀ b o, (s.heap.update a (Obj.mapSeq fun _ => (#[] : Array Value))).get? b = some o → (((s.heap.update a (Obj.mapSeq fun _ => (#[] : Array Value))).push (seqObj "tuple" vs.toArray 0)).push (seqObj "list" #[] 0)).get? b = some o := fun b o e => Heap.get?_push_of_some _ (Heap.get?_push_of_some _ e)
  have old : ∀ b o, b ≠ a → s.heap.get? b = some o → (((s.heap.update a (Obj.mapSeq fun _ => (#[] : Array Value))).push (seqObj "tuple" vs.toArray 0)).push (seqObj "list" #[] 0)).get? b = some o := fun b o hb e => keep b o (by rw [Heap.get?_update_ne _ _ _ _ hb]; exact e)
  have ho6 := keep _ _ ho1
  rw [list_sort_plain]
  refine wpAny_bind (listItems_at ho rfl (wpAny_bind (listUpdate_at ho rfl (wpAny_bind (seqEpoch_at ho1 rfl (wpAny_bind (wpAny_newTuple (wpAny_bind (wpAny_newList (wpAny_holding ?_) (Nat.zero_le _))) hz)))) (by rw [List.size_toArray]; exact hz) (Nat.zero_le _))))
  show wpAny (model prog w) A _ P E { s with heap := ((s.heap.update a (Obj.mapSeq fun _ => (#[] : Array Value))).push (seqObj "tuple" vs.toArray 0)).push (seqObj "list" #[] 0) }
  dsimp only
  by_cases h2 : vs.toArray.size < 2
  · rw [if_pos h2, if_pos h2]
    refine wpAny_bind (wpAny_pure ?_)
    rw [StateT.run_pure]
    refine wpAny_bind (wpAny_pure ?_)
    dsimp only
    have ez : (arrOf (SortSt.mk' general' (vs.toArray.zip vs.toArray) #[] 7 none)).map (·.2) = vs.toArray := zip_snd vs
    rw [ez]
    refine wpAny_bind (seqEpoch_at ho6 rfl (wpAny_bind (listUpdate_at ho6 rfl ?_ (Nat.zero_le _) (by rw [List.size_toArray]; omega))))
    simp only [bne_self_eq_false, Bool.false_eq_true, if_false]
    have f := fin (List.toArray (List.range vs.length)) (by unfold OkP; simp) (fun i j ij jl => by
      rw [List.size_toArray] at h2
      have e : i = j := by omega
      subst e
      exact O.irr _)
    rw [out_range] at f
    exact wpAny_pure f
  · rw [if_neg h2, if_neg h2]
    rw [List.size_toArray] at h2
    refine wpAny_bind (wpAny_mono (hk _ old (by omega) _ fun κ ask => ?_) (fun _ _ q => q) fun _ _ x => x.elim)
    refine wpAny_bind (wpAny_mono (kat_run (ks := vs) (Q := fun st' s' => ∃ p : Array Nat, p.size = vs.length ∧ arrOf st' = p.map (kas_item (vs.toArray.zip vs.toArray)) ∧ failedOf st' = none ∧ s' = _ ∧ OkP vs.length p ∧ Ris lt p vs.length) rfl (by omega) h64
      (fun p' st' s' a1 a2 a3 a4 => ⟨p', a1, a2, a3, a4⟩) (pw_wp ask (pw_sort O (by omega)))) ?_ fun _ _ e => e)
    rintro ⟨⟨⟩, st'⟩ s' ⟨p, hp, har, hf, rfl, ok, ri⟩
    dsimp only
    rw [kat_snds rfl har]
    refine wpAny_bind (seqEpoch_at ho6 rfl (wpAny_bind (listUpdate_at ho6 rfl ?_ (Nat.zero_le _) (by rw [List.size_toArray, List.length_map, Array.length_toList, hp]; omega))))
    rw [hf]
    simp only [bne_self_eq_false, Bool.false_eq_true, if_false]
    exact wpAny_pure (fin p ok ri)
theorem sorted_ask {l : Addr} {vs : List Value} {Q : Value → Shared → Prop} {lt : Nat → Nat → Bool} (O : Ordr lt) (hl : s.heap.IsList l vs.toArray) (h64 : vs.length < 64)
    (hk : ∀ h6 : Heap, (∀ b o, s.heap.get? b = some o → h6.get? b = some o) → 2 ≤ vs.length → Asks prog w A.in1.in1 vs lt { s with heap := h6 })
    (fin : ∀ p : Array Nat, OkP vs.length p → Ris lt p vs.length → Q (.ref (s.heap.objs.size + 1)) { s with heap := sortedAll s.heap vs (outOf vs p).toArray }) : wpAny (model prog w) A (call (.builtin "sorted") [.ref l]) Q E s := by
  have hz : vs.length ≤ sizeLine := by rw [sizeLine_eq]; omega
  have hsz : ((s.heap.push (seqObj "list" #[] 0)).update s.heap.objs.size (Obj.mapSeq (· ++ vs.toArray))).objs.size = s.heap.objs.size + 1 := by rw [Heap.size_update, size_push']
  have hoL : (((s.heap.push (seqObj "list" #[] 0)).update s.heap.objs.size (Obj.mapSeq (· ++ vs.toArray))).push (seqObj "list" vs.toArray 0)).get? (s.heap.objs.size + 1) = some (seqObj "list" vs.toArray 0) := by rw [← hsz]; exact Heap.get?_push_size _ rfl
  have keep : ∀ b o, s.heap.get? b = some o → (((s.heap.push (seqObj "list" #[] 0)).update s.heap.objs.size (Obj.mapSeq (· ++ vs.toArray))).push (seqObj "list" vs.toArray 0)).get? b = some o := fun b o q => by
    have hlt : b < s.heap.objs.size := Heap.lt_size q
    refine Heap.get?_push_of_some _ ?_
    rw [Heap.get?_update_ne _ _ _ _ (Nat.ne_of_lt hlt)]
    exact Heap.get?_push_of_some _ q
  refine Calls.call_function_entry kind_sorted plain_sorted entry_sorted (args_sorted1 _) ?_
  unfold Builtin.«sorted»
  refine wpAny_bind (m := checkCount "sorted" 1 1 _) (wpAny_pure (wpAny_bind (collect_list hl (wpAny_bind (wpAny_newList ?_ hz)) hz)))
  show wpAny _ _ _ _ _ { s with heap := ((s.heap.push (seqObj "list" #[] 0)).update s.heap.objs.size (Obj.mapSeq (· ++ vs.toArray))).push (seqObj "list" vs.toArray 0) }
  rw [hsz]
  refine wpAny_bind (wpAny_holding (wpAny_call_entry slot_list_sort ⟨_, hoL, rfl⟩ entry_list_sort (sort_ask (s := { s with heap := ((s.heap.push (seqObj "list" #[] 0)).update s.heap.objs.size (Obj.mapSeq (· ++ vs.toArray))).push (seqObj "list" vs.toArray 0) }) O hoL h64 (fun h6 old => hk h6 fun b o q => old b o (Nat.ne_of_lt (Nat.lt_succ_of_lt (Heap.lt_size q))) (keep b o q)) fun p ok ri => ⟨_, rfl, ?_⟩) (args_list_sort _)))
  exact wpAny_pure ⟨_, rfl, fin p ok ri⟩
end

section
variable {X : Cx}
/-- things taken by their places -/
theorem pairs_take {α β : Type} {R : α → β → Prop} {as : List α} {bs : List β} (h : Paired R as bs) (da : α) (db : β) : ∀ is : List Nat, (∀ i ∈ is, i < as.length) → Paired R (is.map fun i => as.getD i da) (is.map fun i => bs.getD i db)
  | [], _ => .nil
  | i :: is, hi => by
    refine .cons ?_ (pairs_take h da db is fun j hj => hi j (List.mem_cons_of_mem _ hj))
    have hl := hi i (List.mem_cons_self ..)
    have go : ∀ {as : List α} {bs : List β}, Paired R as bs → ∀ i, i < as.length → R (as.getD i da) (bs.getD i db) := by
      intro as bs h
      induction h with
      | nil => intro i hi; simp at hi
      | cons r t ih =>
        intro i hi
        cases i with
        | zero => simpa using r
        | succ i => simpa using ih i (by simpa using hi)
    exact go h i hl
theorem take_perm {α : Type} (d : α) (l : List α) {is : List Nat} (h : is.Perm (List.range l.length)) : (is.map fun i => l.getD i d).Perm l := by
  refine (h.map _).trans ?_
  have e : (List.range l.length).map (fun i => l.getD i d) = l := List.ext_getElem (by simp) fun i h1 h2 => by simp [h2]
  rw [e]
end
end L2

set_option Elab.async false
set_option linter.all false
set_option maxRecDepth 100000
set_option maxHeartbeats 4000000
/-! sorted of lists of numbers. -/
namespace L2
open PySem PySem.Spec PyProof.Rows PySem.W PySem.SeqAt Ck
/-- the order of lists: the first number that differs decides, else the shorter one is less -/
noncomputable def ltL : List Int → List Int → Bool
  | [], [] => false
  | [], _ :: _ => true
  | _ :: _, [] => false
  | a :: as, b :: bs => if a = b then ltL as bs else decide (a < b)
theorem ltL_nilR : ∀ as : List Int, ltL as [] = false
  | [] => rfl
  | _ :: _ => rfl
theorem ltL_asym : ∀ as bs : List Int, ltL as bs = true → ltL bs as = false
  | [], [], h => rfl
  | [], _ :: _, _ => rfl
  | _ :: _, [], h => by cases h
  | a :: as, b :: bs, h => by
    unfold ltL at h ⊢
    by_cases e : a = b
    · rw [if_pos e] at h
      rw [if_pos e.symm]
      exact ltL_asym as bs h
    · rw [if_neg e] at h
      rw [if_neg (fun z => e z.symm)]
      have := of_decide_eq_true h
      exact decide_eq_false (by omega)
theorem ltL_ntr : ∀ as bs cs : List Int, ltL bs as = false → ltL cs bs = false → ltL cs as = false
  | [], _, cs, _, _ => ltL_nilR cs
  | _ :: _, [], _, h, _ => by cases h
  | _ :: _, _ :: _, [], _, h => by cases h
  | a :: as, b :: bs, c :: cs, h1, h2 => by
    unfold ltL at h1 h2 ⊢
    by_cases e1 : b = a
    · rw [if_pos e1] at h1
      by_cases e2 : c = b
      · rw [if_pos e2] at h2
        rw [if_pos (e2.trans e1)]
        exact ltL_ntr as bs cs h1 h2
      · rw [if_neg e2] at h2
        have := of_decide_eq_false h2
        rw [if_neg (fun z => e2 (z.trans e1.symm))]
        exact decide_eq_false (by omega)
    · rw [if_neg e1] at h1
      have d1 := of_decide_eq_false h1
      by_cases e2 : c = b
      · rw [if_pos e2] at h2
        rw [if_neg (fun z => e1 (e2.symm.trans z))]
        exact decide_eq_false (by omega)
      · rw [if_neg e2] at h2
        have := of_decide_eq_false h2
        rw [if_neg (by omega)]
        exact decide_eq_false (by omega)
theorem ordL (rs : List (List Int)) : Ordr fun i j => ltL (rs.getD i []) (rs.getD j []) where
  asym a b h := ltL_asym _ _ h
  ntr a b c h1 h2 := ltL_ntr _ _ _ h1 h2
theorem ints_at {vs : List Value} {ns : List Int} (h : IntsAre vs ns) : ∀ {i : Nat} {n : Int}, ns[i]? = some n → ∃ t, vs[i]? = some (.int n t) := by
  induction h with
  | nil => intro i n e; cases e
  | cons m t h ih =>
    intro i n e
    cases i with
    | zero => simp at e; exact ⟨t, by rw [← e]; rfl⟩
    | succ i => exact ih (by simpa using e)
theorem lt_loop (l b : Addr) (items items2 : Array Value) (ns ms : List Int) (hi : IntsAre items.toList ns) (hm : IntsAre items2.toList ms) (n n2 : Nat) (dd dd2 : Option Addr) (sl sl2 : Array (Option Value)) : ∀ (k i : Nat), ns.length - i = k → i ≤ ns.length → i ≤ ms.length →
    Meets (Builtin.«list.__eq__.loop» ⟨[.ref l, .ref b, rawInt i, rawInt 0], []⟩) (fun A R s => s.heap.get? l = some { cls := .type "list", dict := dd, data := .seq items n, slots := sl } ∧ s.heap.get? b = some { cls := .type "list", dict := dd2, data := .seq items2 n2, slots := sl2 } ∧ R (.ok (.ret (.bool (ltL (ns.drop i) (ms.drop i))))) s) := by
  have l1 : items.size = ns.length := by have := hi.length; simpa using this
  have l2 : items2.size = ms.length := by have := hm.length; simpa using this
  -- one of them is at its end
  have fin : ∀ i : Nat, i ≤ ns.length → i ≤ ms.length → (i = ns.length ∨ i = ms.length) → ltL (ns.drop i) (ms.drop i) = decide (items.size < items2.size) := fun i h1 h2 h => by
    rw [l1, l2]
    by_cases e : i = ns.length
    · rw [List.drop_eq_nil_of_le (as := ns) (by omega)]
      by_cases e2 : i = ms.length
      · rw [List.drop_eq_nil_of_le (by omega)]
        exact (decide_eq_false (by omega)).symm
      · rw [List.drop_eq_getElem_cons (show i < ms.length by omega)]
        exact (decide_eq_true (by omega)).symm
    · rw [List.drop_eq_nil_of_le (as := ms) (by omega), ltL_nilR]
      exact (decide_eq_false (by omega)).symm
  intro k
  induction k with
  | zero =>
    intro i hk hn2 hm2 prog w A R s h
    obtain ⟨hp, g, d, tk, os⟩ := s
    obtain ⟨hl, hb, h⟩ := h
    wp_walk using wpAny_loadPart' hl, wpAny_loadPart' hb
    have n1 : items[((i : Nat) : Int).toNat]? = none := by simp; omega
    rw [n1]
    rw [fin i hn2 hm2 (by omega)] at h
    wp_walk using wpAny_loadPart' hl, wpAny_loadPart' hb
    exact h
  | succ k ih =>
    intro i hk hn2 hm2 prog w A R s h
    obtain ⟨hp, g, d, tk, os⟩ := s
    obtain ⟨hl, hb, h⟩ := h
    have li : i < ns.length := by omega
    obtain ⟨t1, g1⟩ := ints_at hi (List.getElem?_eq_getElem li)
    have i1 : items[((i : Nat) : Int).toNat]? = some (.int ns[i] t1) := by simpa using g1
    wp_walk using wpAny_loadPart' hl, wpAny_loadPart' hb
    rw [i1]
    by_cases lm : i < ms.length
    · obtain ⟨t2, g2⟩ := ints_at hm (List.getElem?_eq_getElem lm)
      have i2 : items2[((i : Nat) : Int).toNat]? = some (.int ms[i] t2) := by simpa using g2
      rw [i2]
      rw [List.drop_eq_getElem_cons li, List.drop_eq_getElem_cons lm] at h
      unfold ltL at h
      refine wpAny_bind (wpAny_eqBool_int ?_)
      by_cases e : ns[i] = ms[i]
      · rw [if_pos e] at h
        rw [show (ns[i] == ms[i]) = true by simpa using e]
        wp_walk
        have hc : ((i : Int) + 1) = ((i + 1 : Nat) : Int) := by omega
        rw [hc]
        exact ⟨plainId_quiet MeetsSeq3.plain_eq_loop _, codeAny_builtin MeetsSeq3.entry_eq_loop (by
          rw [Around.under_plainId MeetsSeq3.plain_eq_loop _]
          exact ih (i + 1) (by omega) (by omega) (by omega) prog w A R _ ⟨hl, hb, h⟩)⟩
      · rw [if_neg e] at h
        rw [show (ns[i] == ms[i]) = false by simpa using e]
        wp_walk using wpAny_loadPart' hl, wpAny_loadPart' hb
        rw [i1, i2]
        refine wpAny_bind (wpAny_lt_int ?_)
        exact wpAny_pure h
    · have n2' : items2[((i : Nat) : Int).toNat]? = none := by simp; omega
      rw [n2']
      rw [fin i hn2 hm2 (by omega)] at h
      wp_walk using wpAny_loadPart' hl, wpAny_loadPart' hb
      exact h

theorem list_lt (l b : Addr) (items items2 : Array Value) (ns ms : List Int) (hi : IntsAre items.toList ns) (hm : IntsAre items2.toList ms) (n n2 : Nat) (dd dd2 : Option Addr) (sl sl2 : Array (Option Value)) :
    Meets (Builtin.«list.__lt__» ⟨[.ref l, .ref b], []⟩) (fun A R s => s.heap.get? l = some { cls := .type "list", dict := dd, data := .seq items n, slots := sl } ∧ s.heap.get? b = some { cls := .type "list", dict := dd2, data := .seq items2 n2, slots := sl2 } ∧ R (.ok (.ret (.bool (ltL ns ms)))) s) := by
  intro prog w A R s h
  obtain ⟨hp, g, d, tk, os⟩ := s
  obtain ⟨hl, hb, h⟩ := h
  have f3 := AutoSeq1.sub_list_list
  wp_walk using wpAny_loadPart' hl, wpAny_loadPart' hb
  exact ⟨plainId_quiet MeetsSeq3.plain_eq_loop _, codeAny_builtin MeetsSeq3.entry_eq_loop (by
    rw [Around.under_plainId MeetsSeq3.plain_eq_loop _]
    exact lt_loop l b items items2 ns ms hi hm n n2 dd dd2 sl sl2 _ 0 rfl (Nat.zero_le _) (Nat.zero_le _) prog w A R _ ⟨hl, hb, by simpa using h⟩)⟩
section
variable {prog : Program} {w : World} {A : Around} {E : Value → Shared → Prop} {s : Shared}
theorem oneLt_list {l b : Addr} {its jts : List Value} {ns ms : List Int} {n n2 : Nat} {Q : Bool → Shared → Prop} (hu : A.units < cLine) (hi : IntsAre its ns) (hm : IntsAre jts ms) (hl : s.heap.get? l = some { cls := .type "list", data := .seq its.toArray n }) (hb : s.heap.get? b = some { cls := .type "list", data := .seq jts.toArray n2 }) (h : Q (ltL ns ms) s) :
    wpAny (model prog w) A (oneLt' true (.ref l) (.ref b)) Q E s := by
  rw [oneLt'_eq]
  simp only [if_true]
  refine wpAny_bind (wpAny_cRoomFor hu (wpAny_bind (wpAny_callSpecialIfBound?_slot (T := "list") ⟨_, hl, rfl⟩ F.slot_list_lt (call_meets F.slot_list_lt ⟨_, hl, rfl⟩ F.entry_list_lt (F.args_list_lt_2 _ _) (list_lt l b its.toArray jts.toArray ns ms hi hm n n2 none none #[] #[]) ⟨hl, hb, ?_⟩))))
  exact wpAny_truthy_bool h
/-- in this heap the values are these lists of numbers -/
noncomputable def LiV (h : Heap) (vs : List Value) (rs : List (List Int)) : Prop := Paired (fun (v : Value) (r : List Int) => ∃ a its n, v = .ref a ∧ IntsAre its r ∧ h.get? a = some { cls := .type "list", data := .seq its.toArray n }) vs rs
theorem LiV.get {h : Heap} : ∀ {vs : List Value} {rs : List (List Int)}, LiV h vs rs → ∀ {i : Nat}, i < vs.length → ∃ a its n, vs.getD i Value.none = .ref a ∧ IntsAre its (rs.getD i []) ∧ h.get? a = some { cls := .type "list", data := .seq its.toArray n }
  | _, _, .nil, i, e => absurd e (by simp)
  | _, _, .cons r t, 0, e => r
  | _, _, .cons r t, i + 1, e => by
    have := LiV.get t (i := i) (by simpa using e)
    simpa using this
theorem LiV.mem {h : Heap} : ∀ {vs : List Value} {rs : List (List Int)}, LiV h vs rs → ∀ v ∈ vs, ∃ a its n, v = .ref a ∧ h.get? a = some { cls := .type "list", data := .seq (List.toArray its) n }
  | _, _, .cons r t, v, hv => by
    rcases List.mem_cons.mp hv with rfl | hv
    · obtain ⟨a, its, n, e, _, g⟩ := r
      exact ⟨a, its, n, e, g⟩
    · exact LiV.mem t v hv
theorem LiV.mono {h h' : Heap} (k : ∀ b o, h.get? b = some o → h'.get? b = some o) : ∀ {vs : List Value} {rs : List (List Int)}, LiV h vs rs → LiV h' vs rs
  | _, _, .nil => .nil
  | _, _, .cons r t => by
    obtain ⟨a, its, n, e, hi, g⟩ := r
    exact .cons ⟨a, its, n, e, hi, k _ _ g⟩ (LiV.mono k t)
theorem asksL {vs : List Value} {rs : List (List Int)} {s1 : Shared} (hu : A.units < cLine) (r : LiV s1.heap vs rs) (h2 : 2 ≤ vs.length) : Asks prog w A vs (fun i j => ltL (rs.getD i []) (rs.getD j [])) s1 := by
  intro Q q
  refine kas_kind (T := .type "list") h2 (fun v hv => ?_) (by decide) (by decide) (q _ fun i j C hi hj hc => ?_)
  · obtain ⟨a, its, n, rfl, g⟩ := r.mem v hv
    exact (Looks.ld g).andThen .now
  · obtain ⟨a, its, n, e1, i1, g1⟩ := r.get hi
    obtain ⟨b, jts, n2, e2, i2, g2⟩ := r.get hj
    unfold kas_ask
    rw [e1, e2, keyLt'_oneType]
    exact oneLt_list hu i1 i2 g1 g2 hc
end
end L2

set_option Elab.async false
set_option linter.all false
set_option maxRecDepth 100000
set_option maxHeartbeats 4000000
/-! Lists of lists of ints that may be written to: all apart, and new since H0. -/
namespace Ck
open PySem L2
noncomputable abbrev RoomsAt (H0 H : Hp) (a : Addr) : List Addr → List (List Int) → Prop := Paired (fun (b : Addr) (ns : List Int) => H b = some (.lst (ns.map V.int)) ∧ H0 b = none ∧ b ≠ a)
/-- a list of lists of ints at a -/
noncomputable def LLs (H0 H : Hp) (a : Addr) (rs : List (List Int)) : Prop := ∃ bs : List Addr, H a = some (.lst (bs.map V.ref)) ∧ RoomsAt H0 H a bs rs ∧ bs.Nodup
theorem LLs.nil {H0 H : Hp} {a : Addr} (h : H a = some (.lst [])) : LLs H0 H a [] := ⟨[], h, .nil, List.nodup_nil⟩
theorem LLs.same {H0 H H' : Hp} {a : Addr} {rs : List (List Int)} (h : LLs H0 H a rs) (s : Same H H') : LLs H0 H' a rs :=
  let ⟨bs, e, r, n⟩ := h
  ⟨bs, s _ _ e, Paired.mapP r fun _ _ ⟨p, q⟩ => ⟨s _ _ p, q⟩, n⟩
theorem LLs.since {H0 H1 H : Hp} {a : Addr} {rs : List (List Int)} (h : LLs H0 H a rs) (s : Same H1 H0) : LLs H1 H a rs :=
  let ⟨bs, e, r, n⟩ := h
  ⟨bs, e, Paired.mapP r fun _ _ ⟨p, q, z⟩ => ⟨p, s.free q, z⟩, n⟩
theorem LLs.len {H0 H : Hp} {a : Addr} {rs : List (List Int)} (h : LLs H0 H a rs) : ∃ xs, H a = some (.lst xs) ∧ xs.length = rs.length :=
  let ⟨bs, e, r, _⟩ := h
  ⟨_, e, by rw [List.length_map]; exact Paired.length r⟩
theorem RoomsAt.get {H0 H : Hp} {a : Addr} : ∀ {bs : List Addr} {rs : List (List Int)}, RoomsAt H0 H a bs rs → ∀ {j : Nat} {ns : List Int}, rs[j]? = some ns → ∃ b, bs[j]? = some b ∧ H b = some (.lst (ns.map V.int)) ∧ H0 b = none ∧ b ≠ a
  | _, _, .nil, j, ns, e => by cases e
  | _, _, .cons r t, 0, ns, e => by
    rw [List.getElem?_cons_zero] at e
    cases e
    exact ⟨_, rfl, r⟩
  | _, _, .cons r t, j + 1, ns, e => RoomsAt.get t (j := j) (by simpa using e)
theorem LLs.get {H0 H : Hp} {a : Addr} {rs : List (List Int)} (h : LLs H0 H a rs) {xs : List V} (hx : H a = some (.lst xs)) {j : Nat} {ns : List Int} (e : rs[j]? = some ns) : ∃ b, xs[j]? = some (.ref b) ∧ H b = some (.lst (ns.map V.int)) ∧ H0 b = none ∧ b ≠ a := by
  obtain ⟨bs, e1, r, _⟩ := h
  rw [hx] at e1
  cases e1
  obtain ⟨b, h1, h2⟩ := r.get e
  exact ⟨b, by rw [List.getElem?_map, h1]; rfl, h2⟩
theorem RoomsAt.updC {H0 H : Hp} {a c : Addr} {o : HO} : ∀ {bs : List Addr} {rs : List (List Int)}, RoomsAt H0 H a bs rs → (∀ b ∈ bs, b ≠ c) → RoomsAt H0 (upd H c o) a bs rs
  | _, _, .nil, _ => .nil
  | _, _, .cons ⟨p, q⟩ t, n => .cons ⟨(upd_ne (n _ (by simp))).trans p, q⟩ (RoomsAt.updC t fun b hb => n b (by simp [hb]))
theorem RoomsAt.all {H0 H : Hp} {a : Addr} : ∀ {bs : List Addr} {rs : List (List Int)}, RoomsAt H0 H a bs rs → ∀ b ∈ bs, (∃ ns : List Int, H b = some (.lst (ns.map V.int))) ∧ H0 b = none ∧ b ≠ a
  | _, _, .nil, b, hb => by cases hb
  | _, _, .cons ⟨p, q⟩ t, b, hb => by
    rcases List.mem_cons.mp hb with rfl | z
    · exact ⟨⟨_, p⟩, q⟩
    · exact RoomsAt.all t b z
theorem LLs.updC {H0 H : Hp} {a c : Addr} {o o' : HO} {rs : List (List Int)} (h : LLs H0 H a rs) (hc : H0 c = some o') (ne : a ≠ c) : LLs H0 (upd H c o) a rs := by
  obtain ⟨bs, e, r, n⟩ := h
  exact ⟨bs, (upd_ne ne).trans e, r.updC (fun b hb z => by have := (r.all b hb).2.1; rw [z, hc] at this; cases this), n⟩
theorem RoomsAt.snoc {H0 H : Hp} {a b : Addr} {ns : List Int} (hb : H b = some (.lst (ns.map V.int))) (h0 : H0 b = none) (ne : b ≠ a) : ∀ {bs : List Addr} {rs : List (List Int)}, RoomsAt H0 H a bs rs → RoomsAt H0 H a (bs ++ [b]) (rs ++ [ns])
  | _, _, .nil => .cons ⟨hb, h0, ne⟩ .nil
  | _, _, .cons r t => .cons r (RoomsAt.snoc hb h0 ne t)
theorem LLs.snoc {H0 H : Hp} {a b : Addr} {rs : List (List Int)} {xs : List V} (h : LLs H0 H a rs) (hx : H a = some (.lst xs)) (hb : H b = none) (h0 : H0 b = none) (ns : List Int) :
    LLs H0 (upd (upd H b (.lst (ns.map V.int))) a (.lst (xs ++ [.ref b]))) a (rs ++ [ns]) := by
  obtain ⟨bs, e, r, n⟩ := h
  rw [hx] at e
  cases e
  have ne : b ≠ a := fun z => by rw [z, hx] at hb; cases hb
  have nb : ∀ c ∈ bs, c ≠ b := fun c hc z => by
    obtain ⟨⟨ms, e⟩, _⟩ := r.all c hc
    rw [z, hb] at e
    cases e
  have r1 : RoomsAt H0 (upd H b (.lst (ns.map V.int))) a bs rs := r.updC nb
  have r2 : RoomsAt H0 (upd (upd H b (.lst (ns.map V.int))) a (.lst (bs.map V.ref ++ [.ref b]))) a bs rs := r1.updC fun c hc => (r.all c hc).2.2
  refine ⟨bs ++ [b], by rw [upd_same, List.map_append]; rfl, RoomsAt.snoc ((upd_ne ne).trans upd_same) h0 ne r2, ?_⟩
  refine List.nodup_append.mpr ⟨n, by simp, ?_⟩
  intro c hc d hd
  have : d = b := by simpa using hd
  rw [this]
  exact nb c hc
theorem RoomsAt.put {H0 H : Hp} {a b : Addr} {ms : List Int} : ∀ {bs : List Addr} {rs : List (List Int)} {j : Nat}, RoomsAt H0 H a bs rs → bs.Nodup → bs[j]? = some b → RoomsAt H0 (upd H b (.lst (ms.map V.int))) a bs (rs.set j ms)
  | _, _, j, .nil, _, e => by cases e
  | _, _, 0, .cons r t, n, e => by
    rw [List.getElem?_cons_zero] at e
    cases e
    rw [List.nodup_cons] at n
    exact .cons ⟨upd_same, r.2⟩ (RoomsAt.updC t fun c hc z => n.1 (z ▸ hc))
  | _, _, j + 1, .cons r t, n, e => by
    rw [List.nodup_cons] at n
    have e' := e
    rw [List.getElem?_cons_succ] at e'
    have hb := List.mem_of_getElem? e'
    exact .cons ⟨(upd_ne (fun z => n.1 (by rw [z]; exact hb))).trans r.1, r.2⟩ (RoomsAt.put t n.2 e')
theorem LLs.put {H0 H : Hp} {a b : Addr} {rs : List (List Int)} {xs : List V} (h : LLs H0 H a rs) (hx : H a = some (.lst xs)) {j : Nat} (e : xs[j]? = some (.ref b)) (ms : List Int) : LLs H0 (upd H b (.lst (ms.map V.int))) a (rs.set j ms) := by
  obtain ⟨bs, e1, r, n⟩ := h
  rw [hx] at e1
  cases e1
  have e2 : bs[j]? = some b := by
    rw [List.getElem?_map] at e
    cases hb : bs[j]? with
    | none => rw [hb] at e; cases e
    | some c =>
      rw [hb] at e
      have : V.ref c = V.ref b := by simpa using e
      cases this
      rfl
  exact ⟨bs, (upd_ne (Ne.symm (r.all b (List.mem_of_getElem? e2)).2.2)).trans hx, r.put n e2, n⟩
noncomputable def roomsT (rs : List (List Int)) : Tree := .lst (rs.map rowT)
theorem RoomsAt.rep {H0 H : Hp} {a : Addr} : ∀ {bs : List Addr} {rs : List (List Int)}, RoomsAt H0 H a bs rs → (∀ r ∈ rs, r.length ≤ 1000000) → RepL H (rs.map rowT) (bs.map V.ref)
  | _, _, .nil, _ => by unfold List.map RepL; rfl
  | _, _, .cons r t, hl => by
    rw [List.map_cons, List.map_cons]
    unfold RepL
    exact ⟨_, _, rfl, rep_row r.1 (hl _ (by simp)), RoomsAt.rep t fun r hr => hl r (by simp [hr])⟩
theorem LLs.rep {H0 H : Hp} {a : Addr} {rs : List (List Int)} (h : LLs H0 H a rs) (hl : rs.length ≤ 1000000) (hm : ∀ r ∈ rs, r.length ≤ 1000000) : Rep H (roomsT rs) (.ref a) := by
  obtain ⟨bs, e, r, _⟩ := h
  unfold roomsT Rep
  exact ⟨a, _, rfl, e, by rw [List.length_map]; exact hl, r.rep hm⟩
theorem depL_rooms : ∀ rs : List (List Int), depL (rs.map rowT) ≤ 1
  | [] => by unfold List.map depL; exact Nat.zero_le _
  | r :: rs => by
    rw [List.map_cons]
    unfold depL
    rw [dep_row]
    exact Nat.max_le.mpr ⟨Nat.le_refl _, depL_rooms rs⟩
theorem dep_rooms (rs : List (List Int)) : dep (roomsT rs) ≤ 2 := by unfold roomsT dep; have := depL_rooms rs; omega
theorem LLs.eqD {K : PySem.W.Frag} {H0 H1 H : Hp} {a b : Addr} {rs : List (List Int)} (h : LLs H0 H a rs) (k : LLs H1 H b rs) (ne : a ≠ b) : EqD K H 2 (.ref a) (.ref b) true := by
  obtain ⟨xs, ex, lx⟩ := h.len
  obtain ⟨ys, ey, ly⟩ := k.len
  refine EqD.lstT ne (SqL.of ex) (SqL.of ey) (by omega) fun j x y e1 e2 => ?_
  have hj : j < rs.length := by rw [← lx]; exact (List.getElem?_eq_some_iff.mp e1).1
  obtain ⟨c, f1, g1, _⟩ := h.get ex (List.getElem?_eq_getElem hj)
  obtain ⟨d, f2, g2, _⟩ := k.get ey (List.getElem?_eq_getElem hj)
  rw [f1] at e1
  rw [f2] at e2
  cases e1
  cases e2
  by_cases z : c = d
  · subst z
    exact .same
  · exact EqD.lstT z (SqL.of g1) (SqL.of g2) rfl fun j x y e1 e2 => EqD.rowT e1 e2
/-- rooms, the pile of those that are open, how many numbers stand -/
inductive Rom : List (List Int) → List Nat → Nat → Prop
  | start : Rom [] [] 0
  | shut {rs : List (List Int)} {p : List Nat} {m k : Nat} : Rom rs (p ++ [m]) k → Rom rs p k
  | opn {rs : List (List Int)} {p : List Nat} {k : Nat} : Rom rs p k → Rom (rs ++ [[(k : Int)]]) (p ++ [rs.length]) (k + 1)
  | put {rs : List (List Int)} {p : List Nat} {m k : Nat} {r : List Int} : Rom rs (p ++ [m]) k → rs[m]? = some r → Rom (rs.set m (r ++ [(k : Int)])) (p ++ [m]) (k + 1)
theorem Rom.lens {rs : List (List Int)} {p : List Nat} {k : Nat} (h : Rom rs p k) : rs.length ≤ k ∧ (∀ m ∈ p, m < rs.length) ∧ p.length ≤ rs.length ∧ ∀ r ∈ rs, r.length ≤ k := by
  induction h with
  | start => simp
  | @shut rs p m k _ ih =>
    obtain ⟨h1, h2, h3, h4⟩ := ih
    exact ⟨h1, fun x hx => h2 x (by simp [hx]), by simp at h3; omega, h4⟩
  | @opn rs p k _ ih =>
    obtain ⟨h1, h2, h3, h4⟩ := ih
    refine ⟨by simp; omega, fun x hx => ?_, by simp; omega, fun r hr => ?_⟩
    · rcases List.mem_append.mp hx with z | z
      · have := h2 x z; simp; omega
      · have : x = rs.length := by simpa using z
        simp; omega
    · rcases List.mem_append.mp hr with z | z
      · have := h4 r z; omega
      · have : r = [(k : Int)] := by simpa using z
        rw [this]; simp
  | @put rs p m k r _ hr ih =>
    obtain ⟨h1, h2, h3, h4⟩ := ih
    refine ⟨by rw [List.length_set]; omega, fun x hx => by rw [List.length_set]; exact h2 x hx, by rw [List.length_set]; exact h3, fun s hs => ?_⟩
    rcases List.mem_or_eq_of_mem_set hs with z | z
    · have := h4 s z; omega
    · have := h4 r (List.mem_of_getElem? hr)
      rw [z]; simp; omega
end Ck
namespace Ck
open PySem L2
/-- what was there is still there, perhaps changed -/
noncomputable def Stay (H H' : Hp) : Prop := ∀ b, H' b = none → H b = none
theorem Stay.refl (H : Hp) : Stay H H := fun _ h => h
theorem Stay.free' {H H' : Hp} {b : Addr} (s : Stay H H') (h : H' b = none) : H b = none := s b h
theorem Stay.upd {H H' : Hp} (s : Stay H H') (a : Addr) (o : HO) : Stay H (L2.upd H' a o) := fun b h => s b (by
  by_cases e : b = a
  · rw [e, upd_same] at h; cases h
  · rw [upd_ne e] at h; exact h)
theorem Stay.new {H H' : Hp} {o : HO} (s : Stay H H') (a : Addr) : Stay H (L2.upd H' a o) := s.upd a o
end Ck

set_option Elab.async false
set_option linter.all false
set_option maxRecDepth 100000
set_option maxHeartbeats 4000000
/-! Rooms: sorted of rooms; joined and parted. -/
namespace Ck
open PySem PySem.Spec PyProof.Rows L2
theorem rooms_vals {X : Cx} {pins : List (Addr × Obj)} {σ : L2.St} {H H0 : Hp} {s : Shared} {a : Addr} (I : Inv X pins σ H s) : ∀ {bs : List Addr} {rs : List (List Int)} {vs : List Value}, RoomsAt H0 H a bs rs → Vals (bs.map V.ref) vs → LiV s.heap vs rs
  | _, _, _, .nil, .nil => .nil
  | _, _, _, .cons r t, .cons rv tv => by
    cases rv
    obtain ⟨z, its, n, r', hl, e⟩ := I.lstM r.1
    exact .cons ⟨_, its, n, rfl, intsAre_of r', e⟩ (rooms_vals I t tv)
theorem rooms_same {H H' H0 : Hp} {a a' : Addr} : ∀ {bs : List Addr} {rs : List (List Int)}, RoomsAt H0 H a bs rs → (∀ b ∈ bs, H' b = H b ∧ b ≠ a') → RoomsAt H0 H' a' bs rs
  | _, _, .nil, _ => .nil
  | _, _, .cons ⟨p, q, _⟩ t, k => .cons ⟨(k _ (by simp)).1.trans p, q, (k _ (by simp)).2⟩ (rooms_same t fun b hb => k b (by simp [hb]))
end Ck
namespace L2
open PySem PySem.Spec PyProof.Rows PySem.W Ck
section
variable {X : Cx}
theorem call_sortedL (hu : X.A.units + 100 < cLine) : CallR X (.builtin "sorted") (fun xs H Q => ∃ (p : Addr) (H0 : Hp) (rs : List (List Int)), xs = [.ref p] ∧ LLs H0 H p rs ∧ rs.length < 64 ∧ ∀ (q : Addr) (ss : List (List Int)) (H' : Hp), Same H H' → H q = none → LLs H0 H' q ss → ss.Perm rs → ss.Pairwise (fun a b => ltL b a = false) → (∀ (ws zs : List V), H p = some (.lst ws) → H' q = some (.lst zs) → ∀ v ∈ zs, v ∈ ws) → Q (.ref q) H') := by
  intro pins s σ H xs us Q I r h
  obtain ⟨p, H0, rs, rfl, ⟨bs, hl, ro, nd⟩, h64, q⟩ := h
  obtain ⟨u, rfl, ru⟩ := vals1 r
  cases ru
  obtain ⟨its, r', pl, hz⟩ := I.list (SqL.of hl)
  have lw : bs.length = rs.length := Paired.length ro
  have li : (bs.map V.ref).length = its.length := r'.length
  rw [List.length_map] at li
  have lv := rooms_vals I ro r'
  refine sorted_ask (ordL rs) pl.isList (by omega) (fun h6 old h2 => asksL (s1 := { s with heap := h6 }) (show X.A.units + 1 + 1 < cLine by omega) (lv.mono old) h2) fun g ok ri => ?_
  obtain ⟨e, he⟩ := sortedAll_at s.heap its (outOf its g).toArray
  have hb : ∀ i ∈ g.toList, i < its.length := fun i hi => List.mem_range.mp (ok.mem_iff.mp hi)
  have lg : g.toList.length = its.length := by rw [ok.length_eq, List.length_range]
  have em : (g.toList.map fun i => (bs.map V.ref).getD i V.non) = (g.toList.map fun i => bs.getD i 0).map V.ref := by
    rw [List.map_map]
    refine List.map_congr_left fun i hi => ?_
    have := hb i hi
    have l1 : i < bs.length := by omega
    simp [l1]
  have hz2 : ((g.toList.map fun i => bs.getD i 0).map V.ref).length ≤ sizeLine := by rw [List.length_map, List.length_map, lg]; exact sz (by omega)
  have vs2 : Vals ((g.toList.map fun i => bs.getD i 0).map V.ref) (outOf its g) := by
    rw [← em]
    exact pairs_take r' V.non Value.none g.toList (fun i hi => by rw [List.length_map, li]; exact hb i hi)
  have ro2 : RoomsAt H0 H p (g.toList.map fun i => bs.getD i 0) (g.toList.map fun i => rs.getD i []) := pairs_take ro 0 [] g.toList (fun i hi => by rw [li]; exact hb i hi)
  have pm : (g.toList.map fun i => bs.getD i 0).Perm bs := take_perm 0 bs (by rw [li]; exact ok)
  have fr : H (s.heap.objs.size + 1) = none := I.hok.fresh (Nat.le_succ _)
  refine ⟨.ref _, _, I.laid (t' := s.toks) (o := .lst ((g.toList.map fun i => bs.getD i 0).map V.ref)) (fun b u e => sortedAll_old e) (Nat.le_succ _) ⟨hz2, outOf its g, e, vs2, by simpa [seqObj] using he⟩, rfl, ?_⟩
  refine q _ _ _ (Same.new (Same.refl H) fr _) fr ⟨_, upd_same, rooms_same ro2 (fun b hb' => ?_), pm.nodup_iff.mpr nd⟩ (take_perm [] rs (by rw [← lw, li]; exact ok)) ?_ (fun ws zs ew ez v hv => ?_)
  · obtain ⟨⟨ns, hn⟩, _⟩ := ro2.all b hb'
    have : b ≠ s.heap.objs.size + 1 := ne_of_none hn fr
    exact ⟨upd_ne this, this⟩
  · rw [List.pairwise_map]
    have gs : g.size = its.length := by rw [← lg]; simp
    refine List.pairwise_iff_getElem.mpr fun i j hi hj hij => ?_
    have := ri i j (by omega) (by rw [← gs]; simpa using hj)
    unfold gA at this
    simpa [show i < g.size by simpa using hi, show j < g.size by simpa using hj] using this
  · rw [hl] at ew
    cases ew
    rw [upd_same] at ez
    cases ez
    exact (pm.map V.ref).mem_iff.mp hv
end
theorem ltL_anti : ∀ as bs : List Int, ltL as bs = false → ltL bs as = false → as = bs
  | [], [], _, _ => rfl
  | [], _ :: _, h, _ => by cases h
  | _ :: _, [], _, h => by cases h
  | a :: as, b :: bs, h1, h2 => by
    unfold ltL at h1 h2
    by_cases e : a = b
    · rw [if_pos e] at h1
      rw [if_pos e.symm] at h2
      rw [e, ltL_anti as bs h1 h2]
    · rw [if_neg e] at h1
      rw [if_neg (fun z => e z.symm)] at h2
      have := of_decide_eq_false h1
      have := of_decide_eq_false h2
      omega
end L2
namespace Ck
open PySem L2
noncomputable abbrev hd (r : List Int) : Int := r.getD 0 0
noncomputable def iota (k : Nat) : List Int := (List.range k).map fun (i : Nat) => (i : Int)
/-- rooms of a size -/
structure Rms (k : Nat) (rs : List (List Int)) : Prop where
  ne : ∀ r ∈ rs, r ≠ []
  inc : ∀ r ∈ rs, r.Pairwise (· < ·)
  heads : (rs.map hd).Pairwise (· < ·)
  flat : rs.flatten.Perm (iota k)
theorem mem_iota {k : Nat} {x : Int} : x ∈ iota k ↔ 0 ≤ x ∧ x < (k : Int) := by
  unfold iota
  rw [List.mem_map]
  constructor
  · rintro ⟨i, hi, rfl⟩
    have := List.mem_range.mp hi
    omega
  · rintro ⟨h1, h2⟩
    exact ⟨x.toNat, List.mem_range.mpr (by omega), by omega⟩
theorem Rms.rng {k : Nat} {rs : List (List Int)} (h : Rms k rs) {r : List Int} (hr : r ∈ rs) {x : Int} (hx : x ∈ r) : 0 ≤ x ∧ x < (k : Int) :=
  mem_iota.mp (h.flat.mem_iff.mp (List.mem_flatten.mpr ⟨r, hr, hx⟩))
theorem hd_mem {r : List Int} (h : r ≠ []) : hd r ∈ r := by
  cases r with
  | nil => exact absurd rfl h
  | cons a r => exact List.mem_cons_self ..
theorem set_flatten (x : Int) : ∀ (rs : List (List Int)) (m : Nat) (r : List Int), rs[m]? = some r → (rs.set m (r ++ [x])).flatten.Perm (rs.flatten ++ [x])
  | [], m, r, h => by cases h
  | s :: rs, 0, r, h => by
    have e : s = r := by simpa using h
    subst e
    rw [List.set_cons_zero, List.flatten_cons, List.flatten_cons, List.append_assoc, List.append_assoc]
    exact List.Perm.append_left s List.perm_append_comm
  | s :: rs, m + 1, r, h => by
    rw [List.set_cons_succ, List.flatten_cons, List.flatten_cons, List.append_assoc]
    exact List.Perm.append_left s (set_flatten x rs m r (by simpa using h))
theorem iota_succ (k : Nat) : iota (k + 1) = iota k ++ [(k : Int)] := by
  unfold iota
  rw [List.range_succ, List.map_append]
  rfl
theorem Rom.rms {rs : List (List Int)} {p : List Nat} {k : Nat} (h : Rom rs p k) : Rms k rs := by
  induction h with
  | start => exact ⟨fun r h => (by cases h), fun r h => (by cases h), .nil, List.Perm.refl _⟩
  | shut _ ih => exact ih
  | @opn rs p k _ ih =>
    refine ⟨fun r hr => ?_, fun r hr => ?_, ?_, ?_⟩
    · rcases List.mem_append.mp hr with z | z
      · exact ih.ne r z
      · rw [List.mem_singleton.mp z]; simp
    · rcases List.mem_append.mp hr with z | z
      · exact ih.inc r z
      · rw [List.mem_singleton.mp z]; simp
    · rw [List.map_append, List.pairwise_append]
      refine ⟨ih.heads, by simp, fun x hx y hy => ?_⟩
      obtain ⟨r, hr, rfl⟩ := List.mem_map.mp hx
      have : y = (k : Int) := by simpa using hy
      have := ih.rng hr (hd_mem (ih.ne r hr))
      omega
    · rw [List.flatten_append, iota_succ]
      exact List.Perm.append_right _ ih.flat
  | @put rs p m k r _ hr ih =>
    have hrm := List.mem_of_getElem? hr
    have hl : m < rs.length := (List.getElem?_eq_some_iff.mp hr).1
    refine ⟨fun s hs => ?_, fun s hs => ?_, ?_, ?_⟩
    · rcases List.mem_or_eq_of_mem_set hs with z | z
      · exact ih.ne s z
      · rw [z]; simp
    · rcases List.mem_or_eq_of_mem_set hs with z | z
      · exact ih.inc s z
      · rw [z, List.pairwise_append]
        refine ⟨ih.inc r hrm, by simp, fun x hx y hy => ?_⟩
        have : y = (k : Int) := by simpa using hy
        have := ih.rng hrm hx
        omega
    · have e : (rs.set m (r ++ [(k : Int)])).map hd = rs.map hd := by
        rw [List.map_set]
        have e1 : hd (r ++ [(k : Int)]) = hd r := by
          cases r with
          | nil => exact absurd rfl (ih.ne _ hrm)
          | cons a r => rfl
        rw [e1]
        refine List.ext_getElem? fun j => ?_
        rw [List.getElem?_set]
        by_cases z : m = j
        · subst z
          rw [if_pos rfl, if_pos (by rw [List.length_map]; exact hl), List.getElem?_map, hr]
          rfl
        · rw [if_neg z]
      rw [e]
      exact ih.heads
    · rw [iota_succ]
      exact (set_flatten _ rs m r hr).trans (List.Perm.append_right _ ih.flat)
/-- whether a room has the greatest number -/
noncomputable def isG (i : Nat) (r : List Int) : Bool := decide (r.getD (r.length - 1) 0 = (i : Int) - 1)
noncomputable def rai (d : Int) (r : List Int) : List Int := r.map (· + d)
noncomputable def joinR (i : Nat) (ls rs : List (List Int)) : List (List Int) := (0 :: rai 1 (ls.filter (isG i)).flatten) :: ((ls.filter fun r => !isG i r).map (rai 1) ++ rs.map (rai ((i : Int) + 1)))
theorem rai_rai (d : Int) (r : List Int) : rai (-d) (rai d r) = r := by
  unfold rai
  rw [List.map_map]
  have : ((fun x : Int => x + -d) ∘ fun x : Int => x + d) = id := by funext x; simp; omega
  rw [this, List.map_id]
theorem rai_map (d : Int) (rs : List (List Int)) : (rs.map (rai d)).map (rai (-d)) = rs := by
  rw [List.map_map]
  have : (rai (-d) ∘ rai d) = id := by funext x; exact rai_rai d x
  rw [this, List.map_id]
theorem hd_rai {r : List Int} (h : r ≠ []) (d : Int) : hd (rai d r) = hd r + d := by
  cases r with
  | nil => exact absurd rfl h
  | cons a r => rfl
section
variable {i : Nat} {ls : List (List Int)} (h : Rms i ls)
include h
theorem last_mem {r : List Int} (hr : r ∈ ls) : r.getD (r.length - 1) 0 ∈ r := by
  have := List.length_pos_iff.mpr (h.ne r hr)
  rw [List.getD_eq_getElem?_getD, List.getElem?_eq_getElem (show r.length - 1 < r.length by omega)]
  exact List.getElem_mem _
theorem last_ge {r : List Int} (hr : r ∈ ls) {x : Int} (hx : x ∈ r) : x ≤ r.getD (r.length - 1) 0 := by
  have hp := List.length_pos_iff.mpr (h.ne r hr)
  obtain ⟨j, hj, rfl⟩ := List.getElem_of_mem hx
  rw [List.getD_eq_getElem?_getD, List.getElem?_eq_getElem (show r.length - 1 < r.length by omega)]
  show r[j] ≤ r[r.length - 1]
  by_cases e : j = r.length - 1
  · subst e; exact Int.le_refl _
  · exact Int.le_of_lt (List.pairwise_iff_getElem.mp (h.inc r hr) j (r.length - 1) hj (by omega) (by omega))
theorem isG_mem {r : List Int} (hr : r ∈ ls) : isG i r = true ↔ (i : Int) - 1 ∈ r := by
  unfold isG
  rw [decide_eq_true_iff]
  constructor
  · intro e
    rw [← e]
    exact last_mem h hr
  · intro hm
    have h1 := last_ge h hr hm
    have h2 := h.rng hr (last_mem h hr)
    omega
theorem flat_nd : ls.flatten.Nodup := by
  refine h.flat.nodup_iff.mpr ?_
  unfold iota
  refine List.pairwise_map.mpr (List.nodup_range.imp fun hne => ?_)
  omega
theorem great_one : (ls.filter (isG i)).length ≤ 1 := by
  have nd := flat_nd h
  have key : ∀ l : List (List Int), l.flatten.Nodup → (∀ r ∈ l, isG i r = true → (i : Int) - 1 ∈ r) → (l.filter (isG i)).length ≤ 1 := by
    intro l
    induction l with
    | nil => intro _ _; simp
    | cons r l ih =>
      intro nd hm
      rw [List.flatten_cons, List.nodup_append] at nd
      have ih' := ih nd.2.1 fun s hs => hm s (List.mem_cons_of_mem _ hs)
      by_cases g : isG i r = true
      · rw [List.filter_cons_of_pos g]
        have e : l.filter (isG i) = [] := List.filter_eq_nil_iff.mpr fun s hs gs => by
          have m1 := hm r (List.mem_cons_self ..) g
          have m2 := hm s (List.mem_cons_of_mem _ hs) gs
          exact nd.2.2 _ m1 _ (List.mem_flatten.mpr ⟨s, hs, m2⟩) rfl
        rw [e]
        exact Nat.le_refl _
      · rw [List.filter_cons_of_neg g]
        exact ih'
  exact key ls nd fun r hr g => (isG_mem h hr).mp g
theorem great_is (h0 : 0 < i) : ∃ R, ls.filter (isG i) = [R] ∧ R ∈ ls ∧ R.getD (R.length - 1) 0 = (i : Int) - 1 := by
  have hm : (i : Int) - 1 ∈ ls.flatten := h.flat.mem_iff.mpr (mem_iota.mpr (by omega))
  obtain ⟨R, hR, hx⟩ := List.mem_flatten.mp hm
  have g := (isG_mem h hR).mpr hx
  have hin : R ∈ ls.filter (isG i) := List.mem_filter.mpr ⟨hR, g⟩
  have l1 := great_one h
  match e : ls.filter (isG i), l1, hin with
  | [S], _, hin =>
    have eS : R = S := List.mem_singleton.mp hin
    subst eS
    exact ⟨R, rfl, hR, of_decide_eq_true g⟩
  | [], _, hin => cases hin
  | _ :: _ :: _, l1, _ => simp at l1
theorem none_of (h0 : i = 0) : ls = [] := by
  cases ls with
  | nil => rfl
  | cons r ls =>
    have := h.rng (List.mem_cons_self ..) (hd_mem (h.ne r (List.mem_cons_self ..)))
    omega
/-- the first room's last number -/
theorem first_last : ((0 : Int) :: rai 1 (ls.filter (isG i)).flatten).getD (((0 : Int) :: rai 1 (ls.filter (isG i)).flatten).length - 1) 0 = (i : Int) := by
  by_cases h0 : i = 0
  · rw [none_of h h0, h0]; rfl
  · obtain ⟨R, e, hR, hl⟩ := great_is h (by omega)
    have hp := List.length_pos_iff.mpr (h.ne R hR)
    rw [e]
    have e1 : [R].flatten = R := by simp
    rw [e1]
    have e2 : ((0 : Int) :: rai 1 R).length - 1 = R.length := by unfold rai; simp
    rw [e2]
    obtain ⟨m, hm⟩ : ∃ m, R.length = m + 1 := ⟨R.length - 1, by omega⟩
    rw [hm, List.getD_cons_succ]
    rw [hm, Nat.add_sub_cancel] at hl
    unfold rai
    rw [List.getD_eq_getElem?_getD, List.getElem?_map, List.getElem?_eq_getElem (show m < R.length by omega)]
    rw [List.getD_eq_getElem?_getD, List.getElem?_eq_getElem (show m < R.length by omega)] at hl
    have hl' : R[m] = (i : Int) - 1 := hl
    show R[m] + 1 = (i : Int)
    omega
theorem ris_left : ls.Pairwise (fun a b => ltL b a = false) := by
  have h1 := List.pairwise_map.mp h.heads
  refine List.Pairwise.imp_of_mem (fun {a b} ha hb hab => ?_) h1
  have na := h.ne a ha
  have nb := h.ne b hb
  match a, b, na, nb, hab with
  | x :: a, y :: b, _, _, hab =>
    have : x < y := hab
    unfold ltL
    rw [if_neg (by omega)]
    exact decide_eq_false (by omega)
variable {j : Nat} {rs : List (List Int)} (h' : Rms j rs)
include h'
theorem join_in : ((joinR i ls rs).tail.filter fun r => decide (hd r < (i : Int))) = (ls.filter fun r => !isG i r).map (rai 1) := by
  unfold joinR
  rw [List.tail_cons, List.filter_append]
  have e1 : ((ls.filter fun r => !isG i r).map (rai 1)).filter (fun r => decide (hd r < (i : Int))) = (ls.filter fun r => !isG i r).map (rai 1) := List.filter_eq_self.mpr fun r hr => by
    obtain ⟨s, hs, rfl⟩ := List.mem_map.mp hr
    obtain ⟨hs, g⟩ := List.mem_filter.mp hs
    rw [hd_rai (h.ne s hs)]
    have m := hd_mem (h.ne s hs)
    have b := h.rng hs m
    have l := last_ge h hs m
    have l2 := h.rng hs (last_mem h hs)
    have : ¬ s.getD (s.length - 1) 0 = (i : Int) - 1 := by
      intro z
      have : isG i s = true := by unfold isG; exact decide_eq_true z
      rw [this] at g
      cases g
    exact decide_eq_true (by omega)
  have e2 : (rs.map (rai ((i : Int) + 1))).filter (fun r => decide (hd r < (i : Int))) = [] := List.filter_eq_nil_iff.mpr fun r hr => by
    obtain ⟨s, hs, rfl⟩ := List.mem_map.mp hr
    rw [hd_rai (h'.ne s hs)]
    have b := h'.rng hs (hd_mem (h'.ne s hs))
    rw [decide_eq_true_iff]
    omega
  rw [e1, e2, List.append_nil]
theorem join_out : ((joinR i ls rs).tail.filter fun r => decide (hd r > (i : Int))) = rs.map (rai ((i : Int) + 1)) := by
  unfold joinR
  rw [List.tail_cons, List.filter_append]
  have e1 : ((ls.filter fun r => !isG i r).map (rai 1)).filter (fun r => decide (hd r > (i : Int))) = [] := List.filter_eq_nil_iff.mpr fun r hr => by
    obtain ⟨s, hs, rfl⟩ := List.mem_map.mp hr
    obtain ⟨hs, g⟩ := List.mem_filter.mp hs
    rw [hd_rai (h.ne s hs)]
    have b := h.rng hs (hd_mem (h.ne s hs))
    rw [decide_eq_true_iff]
    omega
  have e2 : (rs.map (rai ((i : Int) + 1))).filter (fun r => decide (hd r > (i : Int))) = rs.map (rai ((i : Int) + 1)) := List.filter_eq_self.mpr fun r hr => by
    obtain ⟨s, hs, rfl⟩ := List.mem_map.mp hr
    rw [hd_rai (h'.ne s hs)]
    have b := h'.rng hs (hd_mem (h'.ne s hs))
    exact decide_eq_true (by omega)
  rw [e1, e2, List.nil_append]
end
/-- what is sorted is the left one again -/
theorem left_back {i : Nat} {ls : List (List Int)} (h : Rms i ls) {ss : List (List Int)} (pm : ss.Perm ((ls.filter fun r => !isG i r) ++ ls.filter (isG i))) (ri : ss.Pairwise (fun a b => ltL b a = false)) : ss = ls := by
  have p2 : ((ls.filter fun r => !isG i r) ++ ls.filter (isG i)).Perm ls := by
    have := List.filter_append_perm (isG i) ls
    exact List.perm_append_comm.trans this
  exact List.Perm.eq_of_pairwise (le := fun a b => ltL b a = false) (fun a b _ _ h1 h2 => ltL_anti a b h2 h1) ri (ris_left h) (pm.trans p2)
end Ck

set_option Elab.async false
set_option linter.all false
set_option maxRecDepth 100000
set_option maxHeartbeats 4000000
/-! Lists of rooms: pushed to, joined, spoiled. -/
namespace L2
open PySem PySem.Spec PyProof.Rows
theorem call_list_ofK {X : Cx} {K : PySem.W.Frag} (hK : X.K = K) : CallR X (.type "list") (fun xs H Q => ∃ p ys, xs = [.ref p] ∧ (SqL K H p ys ∨ SqT K H p ys) ∧ ∀ l, H l = none → Q (.ref l) (upd H l (.lst ys))) := by
  subst hK
  exact call_list_of
end L2
namespace Ck
open PySem L2
theorem Stay.same {H H' H'' : Hp} (s : Stay H H') (t : Same H' H'') : Stay H H'' := fun b h => s b (t.free h)
theorem LLs.at {H0 H : Hp} {a : Addr} {rs : List (List Int)} {xs : List V} (h : LLs H0 H a rs) (hx : H a = some (.lst xs)) {j : Nat} {v : V} (e : xs[j]? = some v) :
    ∃ b ns, v = .ref b ∧ rs[j]? = some ns ∧ H b = some (.lst (ns.map V.int)) ∧ H0 b = none ∧ b ≠ a := by
  obtain ⟨ys, ey, ly⟩ := h.len
  rw [hx] at ey
  cases ey
  have hj : j < rs.length := by rw [← ly]; exact (List.getElem?_eq_some_iff.mp e).1
  obtain ⟨b, h1, h2, h3, h4⟩ := h.get hx (List.getElem?_eq_getElem hj)
  rw [e] at h1
  cases h1
  exact ⟨b, rs[j], rfl, List.getElem?_eq_getElem hj, h2, h3, h4⟩
theorem LLs.mem {H0 H : Hp} {a : Addr} {rs : List (List Int)} {xs : List V} (h : LLs H0 H a rs) (hx : H a = some (.lst xs)) {v : V} (e : v ∈ xs) :
    ∃ b ns, v = .ref b ∧ ns ∈ rs ∧ H b = some (.lst (ns.map V.int)) ∧ H0 b = none ∧ b ≠ a := by
  obtain ⟨j, hj⟩ := List.mem_iff_getElem?.mp e
  obtain ⟨b, ns, h1, h2, h3⟩ := h.at hx hj
  exact ⟨b, ns, h1, List.mem_of_getElem? h2, h3⟩
theorem LLs.push {H0 H H' : Hp} {a b : Addr} {rs : List (List Int)} {xs : List V} {ns : List Int} (h : LLs H0 H a rs) (hx : H a = some (.lst xs)) (s : Same H H') (fb : H b = none) (hb : H' b = some (.lst (ns.map V.int))) (h0 : H0 b = none) :
    LLs H0 (upd H' a (.lst (xs ++ [.ref b]))) a (rs ++ [ns]) := by
  obtain ⟨bs, e, r, n⟩ := h
  rw [hx] at e
  cases e
  have ne : b ≠ a := fun z => by rw [z, hx] at fb; cases fb
  have nb : ∀ c ∈ bs, c ≠ b := fun c hc z => by
    obtain ⟨⟨ms, e⟩, _⟩ := r.all c hc
    rw [z, fb] at e
    cases e
  have r1 : RoomsAt H0 H' a bs rs := Paired.mapP r fun _ _ ⟨p, q⟩ => ⟨s _ _ p, q⟩
  have r2 : RoomsAt H0 (upd H' a (.lst (bs.map V.ref ++ [.ref b]))) a bs rs := r1.updC fun c hc => (r.all c hc).2.2
  refine ⟨bs ++ [b], by rw [upd_same, List.map_append]; rfl, RoomsAt.snoc ((upd_ne ne).trans hb) h0 ne r2, ?_⟩
  refine List.nodup_append.mpr ⟨n, by simp, ?_⟩
  intro c hc d hd
  have : d = b := by simpa using hd
  rw [this]
  exact nb c hc
theorem LLs.swap {H0 H H' : Hp} {a b : Addr} {r0 : List Int} {rs : List (List Int)} {xs : List V} {ns : List Int} (h : LLs H0 H a (r0 :: rs)) (hx : H a = some (.lst xs)) (s : Same H H') (fb : H b = none) (hb : H' b = some (.lst (ns.map V.int))) (h0 : H0 b = none) :
    LLs H0 (upd H' a (.lst (xs.set 0 (.ref b)))) a (ns :: rs) := by
  obtain ⟨bs, e, r, n⟩ := h
  rw [hx] at e
  cases e
  have ne : b ≠ a := fun z => by rw [z, hx] at fb; cases fb
  have nb : ∀ c ∈ bs, c ≠ b := fun c hc z => by
    obtain ⟨⟨ms, e⟩, _⟩ := r.all c hc
    rw [z, fb] at e
    cases e
  have na : ∀ c ∈ bs, c ≠ a := fun c hc => (r.all c hc).2.2
  cases r with
  | @cons c _ cs _ r t =>
    rw [List.nodup_cons] at n
    have t1 : RoomsAt H0 H' a cs rs := Paired.mapP t fun _ _ ⟨p, q⟩ => ⟨s _ _ p, q⟩
    have t2 : RoomsAt H0 (upd H' a (.lst ((V.ref b) :: cs.map V.ref))) a cs rs := t1.updC fun d hd => na d (List.mem_cons_of_mem _ hd)
    refine ⟨b :: cs, by rw [upd_same, List.map_cons, List.map_cons, List.set_cons_zero], ?_, ?_⟩
    · rw [List.map_cons, List.set_cons_zero]
      exact .cons ⟨(upd_ne ne).trans hb, h0, ne⟩ t2
    · exact List.nodup_cons.mpr ⟨fun z => nb b (List.mem_cons_of_mem _ z) rfl, n.2⟩
theorem rooms_app {H0 H : Hp} {a : Addr} : ∀ {bs cs : List Addr} {rs ss : List (List Int)}, RoomsAt H0 H a bs rs → RoomsAt H0 H a cs ss → RoomsAt H0 H a (bs ++ cs) (rs ++ ss)
  | _, _, _, _, .nil, h => h
  | _, _, _, _, .cons r t, h => .cons r (rooms_app t h)
theorem rooms_new {G H0 H : Hp} {a p : Addr} {o : HO} (hp : H p = none) (g : ∀ c, G c = none → H0 c = none) : ∀ {bs : List Addr} {rs : List (List Int)}, RoomsAt G H a bs rs → RoomsAt H0 (upd H p o) p bs rs
  | _, _, .nil => .nil
  | _, _, .cons ⟨h1, h2, _⟩ t => .cons ⟨(upd_ne (ne_of_none h1 hp)).trans h1, g _ h2, ne_of_none h1 hp⟩ (rooms_new hp g t)
theorem LLs.cat {H0 H1 H : Hp} {a b p : Addr} {rs ss : List (List Int)} {xs ys : List V} (h : LLs H0 H a rs) (hx : H a = some (.lst xs)) (k : LLs H1 H b ss) (hy : H b = some (.lst ys)) (s01 : Same H0 H1) (d : ∀ c, V.ref c ∈ xs → H1 c ≠ none) (hp : H p = none) :
    LLs H0 (upd H p (.lst (xs ++ ys))) p (rs ++ ss) := by
  obtain ⟨bs, e, r, n⟩ := h
  rw [hx] at e
  cases e
  obtain ⟨cs, e, r', n'⟩ := k
  rw [hy] at e
  cases e
  refine ⟨bs ++ cs, by rw [upd_same, List.map_append], rooms_app (rooms_new hp (fun c z => z) r) (rooms_new hp (fun c z => s01.free z) r'), ?_⟩
  refine List.nodup_append.mpr ⟨n, n', ?_⟩
  intro c hc e he z
  have h1 := d c (List.mem_map.mpr ⟨c, hc, rfl⟩)
  have h2 := (r'.all e he).2.1
  rw [← z] at h2
  exact h1 h2
/-- c is no part of the rooms at a -/
noncomputable def Off (H : Hp) (a c : Addr) : Prop := c ≠ a ∧ ∀ xs, H a = some (.lst xs) → V.ref c ∉ xs
/-- the rooms at p and those at q share nothing -/
noncomputable def Apart (H : Hp) (p q : Addr) : Prop := Off H p q ∧ ∀ ys c, H q = some (.lst ys) → V.ref c ∈ ys → Off H p c
/-- all that is no part of the rooms at a stays -/
noncomputable def Only (a : Addr) (H H' : Hp) : Prop := ∀ c, Off H a c → ∀ o, H c = some o → H' c = some o
theorem Off.tup {H0 H : Hp} {a c : Addr} {rs : List (List Int)} {vs : List V} (h : LLs H0 H a rs) (hc : H c = some (.tup vs)) : Off H a c := by
  refine ⟨fun z => ?_, fun xs hx hm => ?_⟩
  · obtain ⟨xs, e, _⟩ := h.len
    rw [z, e] at hc
    cases hc
  · obtain ⟨b, ns, e, _, hb, _⟩ := h.mem hx hm
    cases e
    rw [hb] at hc
    cases hc
theorem Off.old {H0 H : Hp} {a c : Addr} {rs : List (List Int)} (h : LLs H0 H a rs) (fa : H0 a = none) {o : HO} (hc : H0 c = some o) : Off H a c := by
  refine ⟨fun z => (by rw [z, fa] at hc; cases hc), fun xs hx hm => ?_⟩
  obtain ⟨b, ns, e, _, _, hb, _⟩ := h.mem hx hm
  cases e
  rw [hb] at hc
  cases hc
theorem Apart.of {H0 H1 H : Hp} {p q : Addr} {rs ss : List (List Int)} (h : LLs H0 H1 p rs) (s : Same H1 H) (k : LLs H1 H q ss) (fq : H1 q = none) : Apart H p q := by
  have key : ∀ c, H1 c = none → Off H p c := fun c hc => by
    obtain ⟨xs, ex, _⟩ := h.len
    refine ⟨fun z => (by rw [z, ex] at hc; cases hc), fun zs hz hm => ?_⟩
    rw [s _ _ ex] at hz
    cases hz
    obtain ⟨b, ns, e, _, hb, _⟩ := h.mem ex hm
    cases e
    rw [hb] at hc
    cases hc
  refine ⟨key q fq, fun ys c hy hm => ?_⟩
  obtain ⟨b, ns, e, _, _, hb, _⟩ := k.mem hy hm
  cases e
  exact key _ hb
theorem Apart.same {H0 H1 H H' : Hp} {p q : Addr} {rs ss : List (List Int)} (ap : Apart H p q) (h : LLs H0 H p rs) (k : LLs H1 H q ss) (s : Same H H') : Apart H' p q := by
  obtain ⟨xs, ex, _⟩ := h.len
  obtain ⟨ys, ey, _⟩ := k.len
  have key : ∀ c, Off H p c → Off H' p c := fun c hc => ⟨hc.1, fun zs hz => by
    rw [s _ _ ex] at hz
    cases hz
    exact hc.2 _ ex⟩
  refine ⟨key q ap.1, fun zs c hz hm => key c (ap.2 zs c ?_ hm)⟩
  rw [s _ _ ey] at hz
  cases hz
  exact ey
theorem Only.same {H0 H H' : Hp} {a : Addr} {rs : List (List Int)} (u : Only a H H') (h : LLs H0 H a rs) (fa : H0 a = none) (s : Same H0 H) : Same H0 H' := fun c o hc => u c (Off.old h fa hc) o (s _ _ hc)
theorem Only.lls {H0 H H' : Hp} {p q : Addr} {ss : List (List Int)} (u : Only p H H') (ap : Apart H p q) (k : LLs H0 H q ss) : LLs H0 H' q ss := by
  obtain ⟨cs, e, r, n⟩ := k
  refine ⟨cs, u q ap.1 _ e, ?_, n⟩
  have : ∀ c ∈ cs, Off H p c := fun c hc => ap.2 _ c e (List.mem_map.mpr ⟨c, hc, rfl⟩)
  clear e n
  induction r with
  | nil => exact .nil
  | cons r t ih => exact .cons ⟨u _ (this _ (by simp)) _ r.1, r.2⟩ (ih fun c hc => this c (by simp [hc]))
theorem Only.apart {H0 H H' : Hp} {a p q : Addr} {rs ss : List (List Int)} (u : Only a H H') (hp : LLs H0 H p rs) (a1 : Apart H a p) {H2 : Hp} (hq : LLs H2 H q ss) (a2 : Apart H a q) (ap : Apart H p q) : Apart H' p q := by
  obtain ⟨xs, ex, _⟩ := hp.len
  obtain ⟨ys, ey, _⟩ := hq.len
  have key : ∀ c, Off H p c → Off H' p c := fun c hc => ⟨hc.1, fun zs hz => by
    rw [u p a1.1 _ ex] at hz
    cases hz
    exact hc.2 _ ex⟩
  refine ⟨key q ap.1, fun zs c hz hm => key c (ap.2 zs c ?_ hm)⟩
  rw [u q a2.1 _ ey] at hz
  cases hz
  exact ey
theorem atI_lastD {r : List Int} (h : r ≠ []) : atI (r.map V.int) (-1) = some (.int (r.getD (r.length - 1) 0)) := by
  obtain ⟨r0, m, rfl⟩ : ∃ r0 m, r = r0 ++ [m] := ⟨_, _, (List.dropLast_concat_getLast h).symm⟩
  rw [List.map_append]
  refine (atI_last (r0.map V.int) (V.int m)).trans ?_
  simp [List.getD_eq_getElem?_getD]
theorem atI_hd {r : List Int} (h : r ≠ []) : atI (r.map V.int) 0 = some (.int (hd r)) :=
  atI_int (i := 0) (by omega) (by have := List.length_pos_iff.mpr h; omega)
theorem sum_lens : ∀ ls : List (List Int), (ls.map fun r => (r.length : Int)).sum = (ls.flatten.length : Int)
  | [] => rfl
  | r :: ls => by
    rw [List.map_cons, List.sum_cons, sum_lens ls, List.flatten_cons, List.length_append]
    omega
theorem len_flat : ∀ ls : List (List Int), (∀ r ∈ ls, r ≠ []) → ls.length ≤ ls.flatten.length
  | [], _ => Nat.le_refl _
  | r :: ls, h => by
    have := len_flat ls fun s hs => h s (by simp [hs])
    have := List.length_pos_iff.mpr (h r (by simp))
    rw [List.flatten_cons, List.length_append, List.length_cons]
    omega
theorem len_one : ∀ (ls : List (List Int)) (r : List Int), r ∈ ls → r.length ≤ ls.flatten.length
  | [], r, h => by cases h
  | s :: ls, r, h => by
    rw [List.flatten_cons, List.length_append]
    rcases List.mem_cons.mp h with rfl | h
    · omega
    · have := len_one ls r h
      omega
theorem iota_len (k : Nat) : (iota k).length = k := by unfold iota; simp
theorem Rms.lens {i : Nat} {ls : List (List Int)} (h : Rms i ls) : ls.length ≤ i ∧ ∀ r ∈ ls, r.length ≤ i := by
  have e := h.flat.length_eq
  rw [iota_len] at e
  have := len_flat ls h.ne
  exact ⟨by omega, fun r hr => by have := len_one ls r hr; omega⟩
theorem Rms.size {i : Nat} {ls : List (List Int)} (h : Rms i ls) : (ls.map fun r => (r.length : Int)).sum = (i : Int) := by
  have e := h.flat.length_eq
  rw [iota_len] at e
  rw [sum_lens, e]
theorem rai_len (d : Int) (r : List Int) : (rai d r).length = r.length := List.length_map _
theorem filter_takeR {f : List Int → Bool} {ls : List (List Int)} {k : Nat} {r : List Int} (h : ls[k]? = some r) : (ls.take (k + 1)).filter f = (ls.take k).filter f ++ (if f r = true then [r] else []) := by
  rw [List.take_add_one, h, List.filter_append]
  congr 1
  by_cases z : f r = true
  · rw [if_pos z]; exact List.filter_cons_of_pos z
  · rw [if_neg z]; exact List.filter_cons_of_neg z
/-- at the room that has the greatest number, none such came before -/
theorem great_first {i : Nat} {ls : List (List Int)} (h : Rms i ls) {k : Nat} {r : List Int} (e : ls[k]? = some r) (g : isG i r = true) : (ls.take k).filter (isG i) = [] := by
  have h1 := great_one h
  have e1 := filter_takeR (f := isG i) e
  rw [if_pos g] at e1
  have h2 : ((ls.take (k + 1)).filter (isG i)).length ≤ (ls.filter (isG i)).length := ((List.take_sublist _ _).filter _).length_le
  rw [e1, List.length_append] at h2
  exact List.eq_nil_of_length_eq_zero (by simp at h2; omega)
theorem joinR_len {i j : Nat} {ls rs : List (List Int)} (h : Rms i ls) (h' : Rms j rs) : (joinR i ls rs).length ≤ i + j + 1 ∧ ∀ r ∈ joinR i ls rs, r.length ≤ i + j + 1 := by
  have a := h.lens
  have b := h'.lens
  have c := List.length_filter_le (fun r => !isG i r) ls
  unfold joinR
  refine ⟨by simp only [List.length_cons, List.length_append, List.length_map]; omega, fun r hr => ?_⟩
  rcases List.mem_cons.mp hr with rfl | hr
  · have e := h.flat.length_eq
    rw [iota_len] at e
    have : (ls.filter (isG i)).flatten.length ≤ ls.flatten.length := by
      have l1 := great_one h
      match e : ls.filter (isG i), l1 with
      | [], _ => simp
      | [R], _ =>
        have : R ∈ ls := (List.mem_filter.mp (by rw [e]; simp)).1
        have := len_one ls R this
        simpa using this
      | _ :: _ :: _, l1 => simp at l1
    rw [List.length_cons, rai_len]
    omega
  · rcases List.mem_append.mp hr with z | z
    · obtain ⟨s, hs, rfl⟩ := List.mem_map.mp z
      have := a.2 s (List.mem_filter.mp hs).1
      rw [rai_len]; omega
    · obtain ⟨s, hs, rfl⟩ := List.mem_map.mp z
      have := b.2 s hs
      rw [rai_len]; omega
theorem joinR_ne {i j : Nat} {ls rs : List (List Int)} (h : Rms i ls) (h' : Rms j rs) : ∀ r ∈ joinR i ls rs, r ≠ [] := by
  intro r hr
  unfold joinR at hr
  rcases List.mem_cons.mp hr with rfl | hr
  · simp
  · rcases List.mem_append.mp hr with z | z
    · obtain ⟨s, hs, rfl⟩ := List.mem_map.mp z
      have := h.ne s (List.mem_filter.mp hs).1
      unfold rai
      simpa using this
    · obtain ⟨s, hs, rfl⟩ := List.mem_map.mp z
      have := h'.ne s hs
      unfold rai
      simpa using this
theorem dep_rooms2 (xs ys : List (List Int)) : dep (.tup [roomsT xs, roomsT ys]) ≤ 3 := by
  have := dep_rooms xs
  have := dep_rooms ys
  rw [dep_two]
  omega
end Ck

set_option maxHeartbeats 4000000
namespace Ck
open PySem L2
noncomputable def top (i : Nat) : Stmt := PySem.Challenge.pw_countkin_k17_rooms_parted.main.body.getD i (.Pass ⟨0, 0, 0, 0⟩)
/-- where the classes and their methods lie -/
structure ClA where
  C_Rooms : Addr
  C_SplitFamily : Addr
  C_Family : Addr
  f_Rooms__Family___init__ : Addr
  f_Rooms__SplitFamily___init__ : Addr
  f_Rooms____init__ : Addr
  f_Rooms__size_of : Addr
  f_Rooms__joined : Addr
  f_Rooms__parted : Addr
  f_Rooms__bare : Addr
structure ClOk (K : PySem.W.Frag) (mg : Str → Option Value) (ca : ClA) : Prop where
  m_Rooms : mg "Rooms" = some (.ref ca.C_Rooms)
  m_SplitFamily : mg "SplitFamily" = some (.ref ca.C_SplitFamily)
  m_Family : mg "Family" = some (.ref ca.C_Family)
  c_Rooms : Cls K ca.C_Rooms
  mt_Rooms_joined : Meth K ca.C_Rooms "joined" ca.f_Rooms__joined
  mt_Rooms_parted : Meth K ca.C_Rooms "parted" ca.f_Rooms__parted
  mt_Rooms_bare : Meth K ca.C_Rooms "bare" ca.f_Rooms__bare
  mt_Rooms_size_of : Meth K ca.C_Rooms "size_of" ca.f_Rooms__size_of
  mk_Rooms : Mk K ca.C_Rooms ca.f_Rooms____init__
  cm_SplitFamily___init___Rooms : ClsM K ca.C_SplitFamily "__init__" ca.f_Rooms__SplitFamily___init__
  cm_Family___init___Rooms : ClsM K ca.C_Family "__init__" ca.f_Rooms__Family___init__
  na_Rooms_word : NoAttr K ca.C_Rooms "word"
  na_Rooms_least : NoAttr K ca.C_Rooms "least"
noncomputable abbrev s__law_cell_at : Stmt := top 13
theorem sc__law_cell_at : FnScope ["_law_script", "_law_k"] ["_law_script", "_law_k"] (defScope s__law_cell_at) := ⟨rfl, rfl, rfl, by decide +kernel, rfl, by decide +kernel, by decide +kernel⟩
noncomputable abbrev s__law_draws : Stmt := top 14
theorem sc__law_draws : FnScope ["_law_script", "_law_turn", "_law_many", "_law_cells", "_law_found", "_law_left", "_law_k", "_law_at", "_law_place", "_law_number"] ["_law_script", "_law_turn", "_law_many"] (defScope s__law_draws) := ⟨rfl, rfl, rfl, by decide +kernel, rfl, by decide +kernel, by decide +kernel⟩
noncomputable abbrev s__law_rooms : Stmt := top 16
theorem sc__law_rooms : FnScope ["_law_script", "_law_size", "_law_turn", "_law_draws_here", "_law_lean", "_law_out", "_law_rooms_here", "_law_pile", "_law_k", "_law_j"] ["_law_script", "_law_size", "_law_turn"] (defScope s__law_rooms) := ⟨rfl, rfl, rfl, by decide +kernel, rfl, by decide +kernel, by decide +kernel⟩
noncomputable abbrev s__law_joined : Stmt := top 18
theorem sc__law_joined : FnScope ["_law_left", "_law_right", "_law_i", "_law_rooms_here", "_law_room"] ["_law_left", "_law_right", "_law_i"] (defScope s__law_joined) := ⟨rfl, rfl, rfl, by decide +kernel, rfl, by decide +kernel, by decide +kernel⟩
noncomputable abbrev s_Rooms__Family___init__ : Stmt := inClass (top 7) 0
theorem sc_Rooms__Family___init__ : FnScope ["self", "word", "least"] ["self", "word", "least"] (defScope s_Rooms__Family___init__) := ⟨rfl, rfl, rfl, by decide +kernel, rfl, by decide +kernel, by decide +kernel⟩
noncomputable abbrev s_Rooms__SplitFamily___init__ : Stmt := inClass (top 8) 0
theorem sc_Rooms__SplitFamily___init__ : FnScope ["self", "word"] ["self", "word"] (defScope s_Rooms__SplitFamily___init__) := ⟨rfl, rfl, rfl, by decide +kernel, rfl, by decide +kernel, by decide +kernel⟩
noncomputable abbrev s_Rooms____init__ : Stmt := inClass (top 10) 0
theorem sc_Rooms____init__ : FnScope ["self"] ["self"] (defScope s_Rooms____init__) := ⟨rfl, rfl, rfl, by decide +kernel, rfl, by decide +kernel, by decide +kernel⟩
noncomputable abbrev s__law_copy : Stmt := top 17
theorem sc__law_copy : FnScope ["_law_rooms_here"] ["_law_rooms_here"] (defScope s__law_copy) := ⟨rfl, rfl, rfl, by decide +kernel, rfl, by decide +kernel, by decide +kernel⟩
noncomputable abbrev s_Rooms__size_of : Stmt := inClass (top 10) 1
theorem sc_Rooms__size_of : FnScope ["self", "thing"] ["self", "thing"] (defScope s_Rooms__size_of) := ⟨rfl, rfl, rfl, by decide +kernel, rfl, by decide +kernel, by decide +kernel⟩
noncomputable abbrev s_raised_by : Stmt := top 2
theorem sc_raised_by : FnScope ["numbers", "step"] ["numbers", "step"] (defScope s_raised_by) := ⟨rfl, rfl, rfl, by decide +kernel, rfl, by decide +kernel, by decide +kernel⟩
noncomputable abbrev s_Rooms__joined : Stmt := inClass (top 10) 5
theorem sc_Rooms__joined : FnScope ["self", "left", "right", "left_size", "first", "others", "room"] ["self", "left", "right"] (defScope s_Rooms__joined) := ⟨rfl, rfl, rfl, by decide +kernel, rfl, by decide +kernel, by decide +kernel⟩
noncomputable abbrev s_Rooms__parted : Stmt := inClass (top 10) 4
theorem sc_Rooms__parted : FnScope ["self", "thing", "left_size", "within", "behind"] ["self", "thing"] (defScope s_Rooms__parted) := ⟨rfl, rfl, rfl, by decide +kernel, rfl, by decide +kernel, by decide +kernel⟩
noncomputable abbrev s_Rooms__bare : Stmt := inClass (top 10) 3
theorem sc_Rooms__bare : FnScope ["self"] ["self"] (defScope s_Rooms__bare) := ⟨rfl, rfl, rfl, by decide +kernel, rfl, by decide +kernel, by decide +kernel⟩
noncomputable abbrev s__law_alike : Stmt := top 15
theorem sc__law_alike : FnScope ["_law_found", "_law_due", "_law_k"] ["_law_found", "_law_due"] (defScope s__law_alike) := ⟨rfl, rfl, rfl, by decide +kernel, rfl, by decide +kernel, by decide +kernel⟩
noncomputable abbrev s__law_spoiled : Stmt := top 19
theorem sc__law_spoiled : FnScope ["_law_rooms_here", "_law_room"] ["_law_rooms_here"] (defScope s__law_spoiled) := ⟨rfl, rfl, rfl, by decide +kernel, rfl, by decide +kernel, by decide +kernel⟩
noncomputable abbrev s_law : Stmt := top 20
theorem sc_law : FnScope ["_law_script", "_law_size", "_law_i", "_law_left", "_law_right", "_law_due", "_law_kin", "_law_handed", "_law_k", "_law_both", "_law_parts", "_law_bare"] ["_law_script"] (defScope s_law) := ⟨rfl, rfl, rfl, by decide +kernel, rfl, by decide +kernel, by decide +kernel⟩
noncomputable def sp__law_cell_at (K : PySem.W.Frag) (_ : ClA) : Sp := fun vs H Q _ => ∃ (a : Addr) (ns : List Int) (k : Int), vs = [.ref a, .int k] ∧ SqL K H a (ns.map V.int) ∧ 0 ≤ k ∧ Q (.int (ns.getD k.toNat 0)) H
noncomputable def sp__law_draws (K : PySem.W.Frag) (_ : ClA) : Sp := fun vs H Q _ => ∃ (a : Addr) (ns : List Int) (t m : Int), vs = [.ref a, .int t, .int m] ∧ SqL K H a (ns.map V.int) ∧ ns.length ≤ 63 ∧ 0 ≤ t ∧ t ≤ 1000 ∧ 0 ≤ m ∧ m ≤ 1000 ∧
  ∀ (p : Addr) (xs : List Int) (H' : Hp), Same H H' → H p = none → H' p = some (.lst (xs.map V.int)) → xs.length = m.toNat → (∀ x ∈ xs, 0 ≤ x ∧ x < 2147483587) → Q (.ref p) H'
noncomputable def sp__law_rooms (K : PySem.W.Frag) (_ : ClA) : Sp := fun vs H Q _ => ∃ (a : Addr) (ns : List Int) (n : Nat) (t : Int), vs = [.ref a, .int n, .int t] ∧ SqL K H a (ns.map V.int) ∧ ns.length ≤ 63 ∧ n ≤ 40 ∧ 0 ≤ t ∧ t ≤ 900 ∧
  ∀ (p : Addr) (rs : List (List Int)) (op : List Nat) (H' : Hp), Same H H' → H p = none → LLs H H' p rs → Rom rs op n → Q (.ref p) H'
noncomputable def sp__law_joined (K : PySem.W.Frag) (_ : ClA) : Sp := fun vs H Q _ => ∃ (l r : Addr) (Ha Hb : Hp) (i j : Nat) (ls rs : List (List Int)), vs = [.ref l, .ref r, .int (i : Int)] ∧ LLs Ha H l ls ∧ LLs Hb H r rs ∧ Rms i ls ∧ Rms j rs ∧ i + j ≤ 40 ∧
  ∀ (p : Addr) (H' : Hp), Same H H' → H p = none → LLs H H' p (joinR i ls rs) → Q (.ref p) H'
noncomputable def sp_Rooms__Family___init__ (_ : PySem.W.Frag) (ca : ClA) : Sp := fun vs H Q _ => ∃ (x dx : Addr) (w : Str) (l : Int), vs = [.ref x, .str w, .int l] ∧ H x = some (.ins ca.C_Rooms dx []) ∧ ∀ (fs : List (Str × V)) (H' : Hp), H' = upd H x (.ins ca.C_Rooms dx fs) → Flds fs w l → Q .non H'
noncomputable def sp_Rooms__SplitFamily___init__ (_ : PySem.W.Frag) (ca : ClA) : Sp := fun vs H Q _ => ∃ (x dx : Addr) (w : Str), vs = [.ref x, .str w] ∧ H x = some (.ins ca.C_Rooms dx []) ∧ ∀ (fs : List (Str × V)) (H' : Hp), H' = upd H x (.ins ca.C_Rooms dx fs) → Flds fs w 0 → Q .non H'
noncomputable def sp_Rooms____init__ (_ : PySem.W.Frag) (ca : ClA) : Sp := fun vs H Q _ => ∃ x dx, vs = [.ref x] ∧ H x = some (.ins ca.C_Rooms dx []) ∧ ∀ (fs : List (Str × V)) (H' : Hp), H' = upd H x (.ins ca.C_Rooms dx fs) → Flds fs "rooms" 0 → Q .non H'
noncomputable def sp__law_copy (K : PySem.W.Frag) (_ : ClA) : Sp := fun vs H Q _ => ∃ (l : Addr) (Ha : Hp) (ls : List (List Int)), vs = [.ref l] ∧ LLs Ha H l ls ∧ ls.length ≤ 1000 ∧ ∀ (p : Addr) (H' : Hp), Same H H' → H p = none → LLs H H' p ls → Q (.ref p) H'
noncomputable def sp_Rooms__size_of (K : PySem.W.Frag) (_ : ClA) : Sp := fun vs H Q _ => ∃ (x l : Addr) (Ha : Hp) (i : Nat) (ls : List (List Int)), vs = [.ref x, .ref l] ∧ LLs Ha H l ls ∧ Rms i ls ∧ i ≤ 1000 ∧ ∀ H', Same H H' → Q (.int (i : Int)) H'
noncomputable def sp_raised_by (K : PySem.W.Frag) (_ : ClA) : Sp := fun vs H Q _ => ∃ (l : Addr) (ns : List Int) (d : Int), vs = [.ref l, .int d] ∧ SqL K H l (ns.map V.int) ∧ ns.length ≤ 1000 ∧ ∀ (p : Addr) (H' : Hp), Same H H' → H p = none → H' p = some (.lst ((ns.map (· + d)).map V.int)) → Q (.ref p) H'
noncomputable def sp_Rooms__joined (K : PySem.W.Frag) (ca : ClA) : Sp := fun vs H Q _ => ∃ (x dx l r : Addr) (fs : List (Str × V)) (Ha Hb : Hp) (i j : Nat) (ls rs : List (List Int)), vs = [.ref x, .ref l, .ref r] ∧ H x = some (.ins ca.C_Rooms dx fs) ∧ fs.lookup ("size_of" : Str) = none ∧ LLs Ha H l ls ∧ LLs Hb H r rs ∧ Rms i ls ∧ Rms j rs ∧ i + j ≤ 40 ∧
  ∀ (p : Addr) (H' : Hp), Same H H' → H p = none → LLs H H' p (joinR i ls rs) → Q (.ref p) H'
noncomputable def sp_Rooms__parted (K : PySem.W.Frag) (_ : ClA) : Sp := fun vs H Q _ => ∃ (x d : Addr) (Ha : Hp) (i j : Nat) (ls rs : List (List Int)), vs = [.ref x, .ref d] ∧ LLs Ha H d (joinR i ls rs) ∧ Rms i ls ∧ Rms j rs ∧ i + j ≤ 40 ∧
  ∀ (t p1 p2 : Addr) (H' : Hp), Same H H' → H p1 = none → H p2 = none → H' t = some (.tup [.ref p1, .ref p2]) → LLs H H' p1 ls → LLs H H' p2 rs → Apart H' p1 p2 → Q (.ref t) H'
noncomputable def sp_Rooms__bare (_ : PySem.W.Frag) (_ : ClA) : Sp := fun vs H Q _ => ∃ x, vs = [.ref x] ∧ ∀ (p : Addr) (H' : Hp), Same H H' → H p = none → H' p = some (.lst []) → Q (.ref p) H'
noncomputable def sp__law_alike (_ : PySem.W.Frag) (_ : ClA) (n : Nat) : Sp := fun vs H Q _ => ∃ (x y : V) (t : Tree), vs = [x, y] ∧ Rep H t x ∧ Rep H t y ∧ dep t ≤ n ∧ Q (.bl true) H
noncomputable def spA__law_alike (K : PySem.W.Frag) (ca : ClA) : Sp := below 5 (fun n => sp__law_alike K ca n)
noncomputable def sp__law_spoiled (K : PySem.W.Frag) (_ : ClA) : Sp := fun vs H Q _ => ∃ (l : Addr) (Ha : Hp) (ls : List (List Int)), vs = [.ref l] ∧ LLs Ha H l ls ∧ ls.length ≤ 1000 ∧ (∀ r ∈ ls, r.length ≤ 1000) ∧ ∀ (H' : Hp), Only l H H' → Q .non H'
noncomputable def sp_law (K : PySem.W.Frag) (_ : ClA) : Sp := fun vs H Q _ => ∃ (a : Addr) (ns : List Int), vs = [.ref a] ∧ SqL K H a (ns.map V.int) ∧ ns.length ≤ 63 ∧ ∀ H', Q (.bl true) H'
section
variable {P : Program} {w : World} {K : PySem.W.Frag} {mg : Str → Option Value} {base : Heap}
theorem ok__law_cell_at {ca : ClA} (CA : ClOk K mg ca) {f : Addr} {fd : FuncData} (F : Fun K "_law_cell_at" "_law_cell_at" s__law_cell_at f fd) (m_len : mg "len" = none) : FnOk P w K mg base CX0 1 f fd ["_law_script", "_law_k"] (sp__law_cell_at K ca) := by
  refine F.ok sc__law_cell_at (fun vs H Q E h => ?_) (fun cdv A outer s H vs Q E hr h => ?_)
  · obtain ⟨a, ns, k, rfl, hS, h0, q⟩ := h
    rfl
  obtain ⟨a, ns, k, rfl, hS, h0, q⟩ := h
  refine ⟨_, pss_cons (ps_if (pt_cmpR op_lt (pv 1) (pe_callB call_len_seq rfl m_len bb_len (pa_cons (pv 0) pa_nil)) (nomark _)) (pss_one (ps_ret (pe_ix ix_list (pv 0) (pv 1) (fun _ _ => rfl)))) pss_nil)
    (pss_one (ps_ret pe_int)), ?_⟩
  have hl : (ns.map V.int).length = ns.length := List.length_map _
  refine ⟨_, rfl, _, rfl, a, _, rfl, .inl hS, _, _, rfl, rfl, _, rfl, ite2 (fun c => ?_) (fun c => ?_)⟩
  · have c' : k < (((ns.map V.int).length : Nat) : Int) := of_decide_eq_true c
    rw [hl] at c'
    exact ⟨_, rfl, _, rfl, a, _, _, _, rfl, rfl, hS, atI_int h0 c', q⟩
  · have c' : ¬ k < (((ns.map V.int).length : Nat) : Int) := of_decide_eq_false (Bool.eq_false_iff.mpr c)
    rw [hl] at c'
    have e : ns.getD k.toNat 0 = 0 := by rw [List.getD_eq_getElem?_getD, List.getElem?_eq_none (by omega)]; rfl
    rw [e] at q
    exact q
theorem ok__law_draws {ca : ClA} (CA : ClOk K mg ca) {f : Addr} {fd : FuncData} (F : Fun K "_law_draws" "_law_draws" s__law_draws f fd) (m_range : mg "range" = none) (m_len : mg "len" = none) : FnOk P w K mg base CX0 1 f fd ["_law_script", "_law_turn", "_law_many"] (sp__law_draws K ca) := by
  refine F.ok sc__law_draws (fun vs H Q E h => ?_) (fun cdv A outer s H vs Q E hr h => ?_)
  · obtain ⟨a, ns, t, m, rfl, hS, h63, t0, t1, m0, m1, q⟩ := h
    rfl
  obtain ⟨a, ns, t, m, rfl, hS, h63, t0, t1, m0, m1, q⟩ := h
  refine ⟨_, pss_cons (ps_set (i := 3) sc__law_draws.nd rfl (Or.inl rfl) (pe_op op_cat (pe_slice sl_list (pv 0) po_none (po_some pe_int)) (pe_lst (pa_cons (pv 1) pa_nil))))
    (pss_cons (ps_set (i := 4) sc__law_draws.nd rfl (Or.inl rfl) (pe_lst pa_nil))
    (pss_cons (ps_if (pt_cmpR op_eq (pe_op op_mod (pe_op op_fdivL (pe_ix ix_list (pv 3) pe_int (fun _ _ => rfl)) pe_int) pe_int) pe_int (nomark _)) (pss_cons (ps_setComp (i := 5) sc__law_draws.nd rfl (Or.inl rfl) rfl rfl (pi_list (pv 3)) rfl rfl rfl rfl (N := ["_law_cell"]) (.own .nil) (fun _ _ _ _ _ _ => (pg_name (i := 0) (by show List.Nodup (["_law_cell"] : List Str); decide +kernel) rfl (Or.inl rfl))) (fun _ _ _ _ _ _ => pts_nil) (fun _ _ _ _ _ _ => (pe_op op_fdivL (pv 0) pe_int)))
    (pss_cons (ps_for PassesOwn.never rfl (pi_range1 rfl m_range (pa_cons (pe_op op_add (pv 1) (pv 2)) pa_nil)) (pg_name (i := 6) sc__law_draws.nd rfl (Or.inl rfl)) (pss_cons (ps_set (i := 7) sc__law_draws.nd rfl (Or.inl rfl) (pe_op op_mod (pv 6) (pe_callB call_len_seq rfl m_len bb_len (pa_cons (pv 5) pa_nil))))
    (pss_cons (ps_if (pt_cmpR op_ge (pv 6) (pv 1) (nomark _)) (pss_one (ps_expr (pe_bm PySem.F.plainAttrs_list PySem.F.slot_list_append PySem.F.type_list_append mt_append (pv 4) (pa_cons (pe_op op_mod (pe_ix ix_list (pv 5) (pv 7) (fun _ _ => rfl)) pe_int) pa_nil)))) pss_nil)
    (pss_one (ps_asg (pe_op op_fdivL (pe_ix ix_list (pv 5) (pv 7) (fun _ _ => rfl)) pe_int) (pg_sub (pv 5) (pv 7) set_list))))))
    (pss_one (ps_ret (pv 4))))) pss_nil)
    (pss_cons (ps_for PassesOwn.never rfl (pi_range1 rfl m_range (pa_cons (pv 2) pa_nil)) (pg_name (i := 6) sc__law_draws.nd rfl (Or.inl rfl)) (pss_cons (ps_set (i := 8) sc__law_draws.nd rfl (Or.inl rfl) (pe_op op_add (pe_op op_mul (pe_op op_mul (pe_op op_add (pv 6) (pv 1)) (pe_op op_add (pv 6) (pv 1))) pe_int) pe_int))
    (pss_cons (ps_set (i := 9) sc__law_draws.nd rfl (Or.inl rfl) (pe_op op_mod (pe_op op_mul (pe_op op_add (pe_op op_mod (pe_ix ix_list (pv 3) (pe_op op_mod (pv 6) (pe_callB call_len_seq rfl m_len bb_len (pa_cons (pv 3) pa_nil))) (fun _ _ => rfl)) pe_int) (pv 8)) pe_int) pe_int))
    (pss_cons (ps_set (i := 9) sc__law_draws.nd rfl (Or.inl rfl) (pe_op op_mod (pe_op op_add (pe_op op_mul (pv 9) (pv 9)) (pe_op op_mul pe_int (pv 6))) pe_int))
    (pss_one (ps_expr (pe_bm PySem.F.plainAttrs_list PySem.F.slot_list_append PySem.F.type_list_append mt_append (pv 4) (pa_cons (pe_op op_mod (pe_op op_mul (pv 9) (pv 9)) pe_int) pa_nil))))))))
    (pss_one (ps_ret (pv 4)))))), ?_⟩
  have M : ∀ x : Int, 0 ≤ x % 2147483587 ∧ x % 2147483587 < 2147483587 := fun x => ⟨Int.emod_nonneg x (by decide), Int.emod_lt_of_pos x (by decide)⟩
  refine ⟨_, rfl, _, rfl, a, _, rfl, hS, fun p1 hp1 => ⟨_, rfl, (by show 1 ≤ sizeLine; decide), fun p2 hp2 => ?_⟩⟩
  have n12 : p1 ≠ p2 := ne_of_none upd_same hp2
  have s1 := Same.new (Same.refl H) hp1 (.lst (cutV (ns.map V.int) none (some 63)))
  have s2 := Same.new s1 hp2 (.lst [.int t])
  have lc : (cutI ns none (some 63)).length ≤ 63 := Nat.le_trans (cutI_length _ _ _) h63
  refine ⟨p1, p2, _, _, rfl, rfl, (upd_ne n12).trans upd_same, upd_same, ?_, fun pc hpc => ?_⟩
  · rw [cutV_map, List.length_map]; exact sz (by simp; omega)
  have s3 := Same.new s2 hpc (.lst (cutV (ns.map V.int) none (some 63) ++ [.int t]))
  have ecs : cutV (ns.map V.int) none (some 63) ++ [.int t] = (cutI ns none (some 63) ++ [t]).map V.int := by rw [cutV_map, List.map_append]; rfl
  have lcs : 1 ≤ (cutI ns none (some 63) ++ [t]).length ∧ (cutI ns none (some 63) ++ [t]).length ≤ 64 := by rw [List.length_append]; constructor <;> simp <;> omega
  rw [ecs] at s3 ⊢
  generalize hH3 : upd (upd (upd H p1 (.lst (cutV (ns.map V.int) none (some 63)))) p2 (.lst [.int t])) pc (.lst ((cutI ns none (some 63) ++ [t]).map V.int)) = H3 at s3 ⊢
  have hc3 : H3 pc = some (.lst ((cutI ns none (some 63) ++ [t]).map V.int)) := by rw [← hH3]; exact upd_same
  generalize cutI ns none (some 63) ++ [t] = cs at hc3 lcs ⊢
  refine ⟨Nat.zero_le _, fun pf hpf => ?_⟩
  have s4 := Same.new s3 hpf (.lst [])
  have fpf : H pf = none := s3.free hpf
  have ncf : pc ≠ pf := ne_of_none hc3 hpf
  have hc4 : upd H3 pf (.lst []) pc = some (.lst (cs.map V.int)) := (upd_ne ncf).trans hc3
  have hf4 : upd H3 pf (.lst []) pf = some (.lst (([] : List Int).map V.int)) := upd_same
  generalize upd H3 pf (.lst []) = H4 at s4 hc4 hf4 ⊢
  have at0 := atI_int (ns := cs) (i := 0) (by decide) (by omega)
  have lm : (cs.map V.int).length = cs.length := List.length_map _
  refine ⟨_, rfl, pc, _, _, _, rfl, rfl, SqL.of hc4, at0, _, _, rfl, rfl, ⟨by decide, by decide +kernel⟩, _, _, rfl, rfl, pm (by decide), rfl, _, rfl, ite2 (fun _ => ?_) (fun _ => ?_)⟩
  · refine ⟨_, rfl, pc, rfl, ⟨_, SqL.of hc4⟩, fun D hD => comp_list (fun v => match v with | .int c => .int (c / 100000) | v => v) (by rw [lm]; exact sz (by omega)) (SqL.of hc4) hD (fun i x H' R R0 hx hb hR => ?_) ?_⟩
    · obtain ⟨c, rfl⟩ := get_int hx
      exact ⟨Ext.set rfl, ttN (iteT ⟨_, rfl, _, _, rfl, rfl, ⟨by decide, by decide +kernel⟩, hR⟩)⟩
    · have fD : H D = none := s4.free hD
      have nfD : pf ≠ D := ne_of_none hf4 hD
      have el : (cs.map V.int).map (fun v => match v with | .int c => V.int (c / 100000) | v => v) = (cs.map (· / 100000)).map V.int := by rw [List.map_map, List.map_map]; rfl
      rw [el]
      refine ⟨_, rfl, _, rfl, _, _, rfl, rfl, _, rfl, by omega, by omega, for_range (lo := 0) (n := (t + m).toNat) (fun i σ H' => ∃ (o1 o2 o3 o4 : Option V) (ls fs : List Int), σ = [some (.ref a), some (.int t), some (.int m), some (.ref pc), some (.ref pf), some (.ref D), o1, o2, o3, o4] ∧ Same H H' ∧ H' D = some (.lst (ls.map V.int)) ∧ ls.length = cs.length ∧ H' pf = some (.lst (fs.map V.int)) ∧ fs.length = i - t.toNat ∧ ∀ x ∈ fs, 0 ≤ x ∧ x < 2147483587)
        ⟨_, _, _, _, _, [], rfl, Same.new s4 hD _, upd_same, by simp, (upd_ne nfD).trans hf4, by simp, by simp⟩ ?_ ?_⟩
      · rintro i σ H5 hi ⟨o1, o2, o3, o4, ls, fs, rfl, sm, hl, ll, hf, lf, bf⟩
        have lml : (ls.map V.int).length = ls.length := List.length_map _
        have pos : (0 : Int) < (((ls.map V.int).length : Nat) : Int) := by rw [lml]; omega
        have k0 := Int.emod_nonneg ((0 : Int) + (i : Int)) (show (((ls.map V.int).length : Nat) : Int) ≠ 0 by omega)
        have k1 := Int.emod_lt_of_pos ((0 : Int) + (i : Int)) pos
        refine ⟨_, rfl, _, rfl, D, _, rfl, .inl (SqL.of hl), _, _, rfl, rfl, pos, ?_⟩
        try dsimp only
        generalize ((0 : Int) + (i : Int)) % (((ls.map V.int).length : Nat) : Int) = k at k0 k1 ⊢
        rw [lml] at k1
        have atk := atI_int (ns := ls) (i := k) k0 k1
        refine ⟨_, rfl, _, rfl, _, _, rfl, rfl, _, rfl, ite2 (fun c => ?_) (fun c => ?_)⟩
        · have c' : t ≤ (0 : Int) + (i : Int) := of_decide_eq_true c
          refine ⟨_, rfl, .inl ⟨rfl, _, SqL.of hf⟩, _, rfl, _, rfl, D, _, _, _, rfl, rfl, SqL.of hl, atk, _, _, rfl, rfl, pm (by decide), pf, _, _, rfl, rfl, hf, by rw [List.length_map]; exact sz' (by omega), ?_⟩
          have hl6 : upd H5 pf (.lst (fs.map V.int ++ [.int (ls.getD k.toNat 0 % 2147483587)])) D = some (.lst (ls.map V.int)) := (upd_ne (Ne.symm nfD)).trans hl
          refine ⟨_, rfl, _, rfl, D, _, _, _, rfl, rfl, SqL.of hl6, atk, _, _, rfl, rfl, ⟨by decide, by decide +kernel⟩, _, rfl, _, rfl, D, _, _, _, rfl, rfl, hl6, ixN_nat k0 (by rw [lml]; exact k1), ?_⟩
          refine ⟨_, _, _, _, ls.set k.toNat (ls.getD k.toNat 0 / 2147483587), fs ++ [ls.getD k.toNat 0 % 2147483587], rfl, (sm.upd fpf _).upd fD _, ?_, by simpa using ll, ?_, by simp [lf]; omega, ?_⟩
          · rw [upd_same, List.map_set]
          · rw [upd_ne nfD, upd_same, List.map_append]; rfl
          · intro x hx
            rcases List.mem_append.mp hx with z | z
            · exact bf x z
            · have : x = ls.getD k.toNat 0 % 2147483587 := by simpa using z
              rw [this]; exact M _
        · have c' : ¬ t ≤ (0 : Int) + (i : Int) := of_decide_eq_false (Bool.eq_false_iff.mpr c)
          refine ⟨_, rfl, _, rfl, D, _, _, _, rfl, rfl, SqL.of hl, atk, _, _, rfl, rfl, ⟨by decide, by decide +kernel⟩, _, rfl, _, rfl, D, _, _, _, rfl, rfl, hl, ixN_nat k0 (by rw [lml]; exact k1), ?_⟩
          refine ⟨_, _, _, _, ls.set k.toNat (ls.getD k.toNat 0 / 2147483587), fs, rfl, sm.upd fD _, ?_, by simpa using ll, (upd_ne nfD).trans hf, by omega, bf⟩
          rw [upd_same, List.map_set]
      · rintro σ H5 ⟨o1, o2, o3, o4, ls, fs, rfl, sm, hl, ll, hf, lf, bf⟩
        exact ⟨_, rfl, q pf fs H5 sm fpf hf (by omega) bf⟩
  · refine ⟨_, rfl, _, rfl, by omega, by omega, for_range (lo := 0) (n := m.toNat) (fun i σ H' => ∃ (o1 o2 o3 o4 o5 : Option V) (fs : List Int), σ = [some (.ref a), some (.int t), some (.int m), some (.ref pc), some (.ref pf), o1, o2, o3, o4, o5] ∧ Same H H' ∧ H' pc = some (.lst (cs.map V.int)) ∧ H' pf = some (.lst (fs.map V.int)) ∧ fs.length = i ∧ ∀ x ∈ fs, 0 ≤ x ∧ x < 2147483587)
      ⟨_, _, _, _, _, [], rfl, s4, hc4, hf4, rfl, by simp⟩ ?_ ?_⟩
    · rintro i σ H5 hi ⟨o1, o2, o3, o4, o5, fs, rfl, sm, hc, hf, lf, bf⟩
      have pos : (0 : Int) < (((cs.map V.int).length : Nat) : Int) := by rw [lm]; omega
      have k0 := Int.emod_nonneg ((0 : Int) + (i : Int)) (show (((cs.map V.int).length : Nat) : Int) ≠ 0 by omega)
      have k1 := Int.emod_lt_of_pos ((0 : Int) + (i : Int)) pos
      have atk := atI_int (ns := cs) (i := ((0 : Int) + (i : Int)) % (((cs.map V.int).length : Nat) : Int)) k0 (by rw [← lm]; exact k1)
      refine ⟨_, rfl, _, rfl, _, _, rfl, rfl, _, rfl, _, rfl, _, _, rfl, rfl, _, _, rfl, rfl, .inl ⟨by omega, by omega⟩, _, _, rfl, rfl, .inr ⟨by decide, by decide⟩, _, _, rfl, rfl, ?_⟩
      refine ⟨_, rfl, _, rfl, _, rfl, pc, _, rfl, .inl (SqL.of hc), _, _, rfl, rfl, pos, pc, _, _, _, rfl, rfl, SqL.of hc, atk, _, _, rfl, rfl, pm (by decide), _, rfl, _, _, rfl, rfl, _, _, rfl, rfl, .inr ⟨by decide, by decide⟩, _, _, rfl, rfl, pm (by decide), ?_⟩
      try dsimp only
      generalize hnu : (cs.getD (((0 : Int) + (i : Int)) % (((cs.map V.int).length : Nat) : Int)).toNat 0 % 2147483647 + (((0 : Int) + (i : Int) + t) * ((0 : Int) + (i : Int) + t) * 7919 + 104729)) * 48271 % 2147483647 = nu
      have b0 : 0 ≤ nu := by rw [← hnu]; exact Int.emod_nonneg _ (by decide)
      have b1 : nu < 2147483647 := by rw [← hnu]; exact Int.emod_lt_of_pos _ (by decide)
      refine ⟨_, rfl, _, rfl, _, _, rfl, rfl, .inl ⟨by omega, by omega⟩, _, rfl, _, _, rfl, rfl, .inl ⟨by decide, by decide⟩, _, _, rfl, rfl, _, _, rfl, rfl, pm (by decide), ?_⟩
      try dsimp only
      generalize hnv : (nu * nu + 69621 * ((0 : Int) + (i : Int))) % 2147483629 = nv
      have d0 : 0 ≤ nv := by rw [← hnv]; exact Int.emod_nonneg _ (by decide)
      have d1 : nv < 2147483629 := by rw [← hnv]; exact Int.emod_lt_of_pos _ (by decide)
      refine ⟨_, rfl, .inl ⟨rfl, _, SqL.of hf⟩, _, rfl, _, rfl, _, _, rfl, rfl, .inl ⟨by omega, by omega⟩, _, _, rfl, rfl, pm (by decide), pf, _, _, rfl, rfl, hf, by rw [List.length_map]; exact sz' (by omega), ?_⟩
      refine ⟨_, _, _, _, _, fs ++ [nv * nv % 2147483587], rfl, sm.upd fpf _, (upd_ne ncf).trans hc, ?_, by simp [lf], ?_⟩
      · rw [upd_same, List.map_append]; rfl
      · intro y hy
        rcases List.mem_append.mp hy with z | z
        · exact bf y z
        · have : y = nv * nv % 2147483587 := by simpa using z
          rw [this]; exact M _
    · rintro σ H5 ⟨o1, o2, o3, o4, o5, fs, rfl, sm, hc, hf, lf, bf⟩
      exact ⟨_, rfl, q pf fs H5 sm fpf hf lf bf⟩
theorem ok__law_rooms {ca : ClA} (CA : ClOk K mg ca) {f : Addr} {fd : FuncData} (F : Fun K "_law_rooms" "_law_rooms" s__law_rooms f fd) {f0 : Addr} {fd0 : FuncData} (d__law_draws : Def P w K mg base "_law_draws" ["_law_script", "_law_turn", "_law_many"] 1 (sp__law_draws K ca) f0 fd0) (m_range : mg "range" = none) (m_min : mg "min" = none) (m_len : mg "len" = none) : FnOk P w K mg base CX0 2 f fd ["_law_script", "_law_size", "_law_turn"] (sp__law_rooms K ca) := by
  refine F.ok sc__law_rooms (fun vs H Q E h => ?_) (fun cdv A outer s H vs Q E hr h => ?_)
  · obtain ⟨a, ns, n, t, rfl, hS, h63, hn, t0, t1, q⟩ := h
    rfl
  obtain ⟨a, ns, n, t, rfl, hS, h63, hn, t0, t1, q⟩ := h
  refine ⟨_, pss_cons (ps_set (i := 3) sc__law_rooms.nd rfl (Or.inl rfl) (pcall d__law_draws hr (pa_cons (pv 0) (pa_cons (pv 2) (pa_cons (pe_op op_add (pv 1) pe_int) pa_nil)))))
    (pss_cons (ps_set (i := 4) sc__law_rooms.nd rfl (Or.inl rfl) (pe_op op_sub (pe_op op_mod (pe_ix ix_list (pv 3) (pv 1) (fun _ _ => rfl)) pe_int) pe_int))
    (pss_cons (ps_set (i := 5) sc__law_rooms.nd rfl (Or.inl rfl) (pe_ix ix_list (pe_lst (pa_cons (pe_lst (pa_cons pe_int (pa_cons pe_int (pa_cons pe_int (pa_cons pe_int pa_nil))))) (pa_cons (pe_lst (pa_cons pe_int (pa_cons pe_int (pa_cons pe_int (pa_cons pe_int pa_nil))))) (pa_cons (pe_lst (pa_cons pe_int (pa_cons pe_int (pa_cons pe_int (pa_cons pe_int pa_nil))))) pa_nil)))) (pe_op op_mod (pe_op op_fdivL (pe_ix ix_list (pv 3) (pv 1) (fun _ _ => rfl)) pe_int) pe_int) (fun _ _ => rfl)))
    (pss_cons (ps_set (i := 6) sc__law_rooms.nd rfl (Or.inl rfl) (pe_lst pa_nil))
    (pss_cons (ps_set (i := 7) sc__law_rooms.nd rfl (Or.inl rfl) (pe_lst pa_nil))
    (pss_cons (ps_for PassesOwn.never rfl (pi_range1 rfl m_range (pa_cons (pv 1) pa_nil)) (pg_name (i := 8) sc__law_rooms.nd rfl (Or.inl rfl)) (pss_cons (ps_for PassesOwn.never rfl (pi_range1 rfl m_range (pa_cons (pe_callB (call_min2 rfl) rfl m_min bb_min (pa_cons (pe_ix ix_list (pv 5) (pe_op op_mod (pe_ix ix_list (pv 3) (pv 8) (fun _ _ => rfl)) pe_int) (fun _ _ => rfl)) (pa_cons (pe_callB call_len_seq rfl m_len bb_len (pa_cons (pv 7) pa_nil)) pa_nil))) pa_nil)) (pg_name (i := 9) sc__law_rooms.nd rfl (Or.inl rfl)) (pss_one (ps_expr (pe_bm0 PySem.F.plainAttrs_list PySem.F.slot_list_pop PySem.F.type_list_pop mt_pop (pv 7)))))
    (pss_one (ps_if (PW.pt (pw_or (pt_cmpR op_eq (pe_callB call_len_seq rfl m_len bb_len (pa_cons (pv 7) pa_nil)) pe_int (nomark _)) (pw_or1 (pt_cmpR op_le (pe_op op_mod (pe_op op_fdivL (pe_ix ix_list (pv 3) (pv 8) (fun _ _ => rfl)) pe_int) pe_int) (pv 4) (nomark _))))) (pss_cons (ps_expr (pe_bm PySem.F.plainAttrs_list PySem.F.slot_list_append PySem.F.type_list_append mt_append (pv 7) (pa_cons (pe_callB call_len_seq rfl m_len bb_len (pa_cons (pv 6) pa_nil)) pa_nil)))
    (pss_one (ps_expr (pe_bm PySem.F.plainAttrs_list PySem.F.slot_list_append PySem.F.type_list_append mt_append (pv 6) (pa_cons (pe_lst (pa_cons (pv 8) pa_nil)) pa_nil))))) (pss_one (ps_expr (pe_bm PySem.F.plainAttrs_list PySem.F.slot_list_append PySem.F.type_list_append mt_append (pe_ix ix_list (pv 6) (pe_ix ix_list (pv 7) (pe_un un_neg pe_int) (fun _ _ => rfl)) (fun _ _ => rfl)) (pa_cons (pv 8) pa_nil))))))))
    (pss_one (ps_ret (pv 6)))))))), ?_⟩
  refine ⟨_, rfl, _, rfl, _, rfl, _, _, rfl, rfl, a, ns, t, _, rfl, hS, h63, t0, by omega, by omega, by omega, fun pd xs H1 sm1 fd hd lx bx => ?_⟩
  have lx' : xs.length = n + 1 := by omega
  have atz := atI_int (ns := xs) (i := (n : Int)) (by omega) (by omega)
  refine ⟨_, rfl, _, rfl, pd, _, _, _, rfl, rfl, SqL.of hd, atz, _, _, rfl, rfl, pm (by decide), _, _, rfl, rfl, ?_⟩
  try dsimp only
  generalize xs.getD (n : Int).toNat 0 % 6 - 1 = le
  refine ⟨sz (n := 4) (by decide), fun q1 hq1 => ⟨sz (n := 4) (by decide), fun q2 hq2 => ⟨sz (n := 4) (by decide), fun q3 hq3 => ⟨sz (n := 3) (by decide), fun qo hqo => ?_⟩⟩⟩⟩
  have s1 := Same.new sm1 hq1 (.lst [.int 0, .int 0, .int 0, .int 0])
  have s2 := Same.new s1 hq2 (.lst [.int 0, .int 0, .int 1, .int 2])
  have s3 := Same.new s2 hq3 (.lst [.int 0, .int 1, .int 1, .int 3])
  have s4 := Same.new s3 hqo (.lst [.ref q1, .ref q2, .ref q3])
  have k1 := Same.new (Same.refl _) hq2 (.lst [.int 0, .int 0, .int 1, .int 2])
  have k2 := Same.new (Same.refl _) hq3 (.lst [.int 0, .int 1, .int 1, .int 3])
  have k3 := Same.new (Same.refl _) hqo (.lst [.ref q1, .ref q2, .ref q3])
  have hd2 := (Same.new (Same.new (Same.new (Same.new (Same.refl H1) hq1 (.lst [.int 0, .int 0, .int 0, .int 0])) hq2 (.lst [.int 0, .int 0, .int 1, .int 2])) hq3 (.lst [.int 0, .int 1, .int 1, .int 3])) hqo (.lst [.ref q1, .ref q2, .ref q3])) _ _ hd
  have w1 := k3 _ _ (k2 _ _ (k1 _ _ (upd_same (H := H1) (a := q1) (o := .lst [.int 0, .int 0, .int 0, .int 0]))))
  have w2 := k3 _ _ (k2 _ _ (upd_same (H := upd H1 q1 (.lst [.int 0, .int 0, .int 0, .int 0])) (a := q2) (o := .lst [.int 0, .int 0, .int 1, .int 2])))
  have w3 := k3 _ _ (upd_same (H := upd (upd H1 q1 (.lst [.int 0, .int 0, .int 0, .int 0])) q2 (.lst [.int 0, .int 0, .int 1, .int 2])) (a := q3) (o := .lst [.int 0, .int 1, .int 1, .int 3]))
  have e0 := Int.emod_nonneg (xs.getD (n : Int).toNat 0 / 6) (show (3 : Int) ≠ 0 by decide)
  have e1 := Int.emod_lt_of_pos (xs.getD (n : Int).toNat 0 / 6) (show (0 : Int) < 3 by decide)
  refine ⟨_, rfl, _, rfl, pd, _, _, _, rfl, rfl, SqL.of hd2, atz, _, _, rfl, rfl, ⟨by decide, by decide +kernel⟩, _, _, rfl, rfl, pm (by decide), ?_⟩
  try dsimp only
  generalize xs.getD (n : Int).toNat 0 / 6 % 3 = e at e0 e1 ⊢
  have hqo' : upd (upd (upd (upd H1 q1 (.lst [.int 0, .int 0, .int 0, .int 0])) q2 (.lst [.int 0, .int 0, .int 1, .int 2])) q3 (.lst [.int 0, .int 1, .int 1, .int 3])) qo (.lst [.ref q1, .ref q2, .ref q3]) qo = some (.lst [.ref q1, .ref q2, .ref q3]) := upd_same
  generalize upd (upd (upd (upd H1 q1 (.lst [.int 0, .int 0, .int 0, .int 0])) q2 (.lst [.int 0, .int 0, .int 1, .int 2])) q3 (.lst [.int 0, .int 1, .int 1, .int 3])) qo (.lst [.ref q1, .ref q2, .ref q3]) = H2 at s4 hd2 w1 w2 w3 hqo' ⊢
  obtain ⟨po, us, est, hpo, lu, bu⟩ : ∃ (po : Addr) (us : List Int), atI [V.ref q1, .ref q2, .ref q3] e = some (.ref po) ∧ H2 po = some (.lst (us.map V.int)) ∧ us.length = 4 ∧ ∀ x ∈ us, 0 ≤ x ∧ x ≤ 3 := by
    rcases (by omega : e = 0 ∨ e = 1 ∨ e = 2) with rfl | rfl | rfl
    · exact ⟨q1, [0, 0, 0, 0], rfl, w1, rfl, by decide⟩
    · exact ⟨q2, [0, 0, 1, 2], rfl, w2, rfl, by decide⟩
    · exact ⟨q3, [0, 1, 1, 3], rfl, w3, rfl, by decide⟩
  refine ⟨qo, _, _, _, rfl, rfl, SqL.of hqo', est, ?_⟩
  refine ⟨Nat.zero_le _, fun pr hpr => ⟨Nat.zero_le _, fun pp hpp => ?_⟩⟩
  have z1 := Same.new (Same.refl H2) hpr (.lst [])
  have z2 := Same.new z1 hpp (.lst [])
  have fpr : H2 pr = none := hpr
  have fpp : H2 pp = none := z1.free hpp
  have nrp : pr ≠ pp := ne_of_none upd_same hpp
  have hsr : upd (upd H2 pr (.lst [])) pp (.lst []) pr = some (.lst []) := (upd_ne nrp).trans upd_same
  have hsp : upd (upd H2 pr (.lst [])) pp (.lst []) pp = some (.lst []) := upd_same
  generalize hHs : upd (upd H2 pr (.lst [])) pp (.lst []) = Hs at z2 hsr hsp ⊢
  refine ⟨_, rfl, _, rfl, by omega, by omega, for_range (lo := 0) (n := (n : Int).toNat) (fun i σ H' => ∃ (o1 o2 : Option V) (rs : List (List Int)) (p : List Nat), σ = [some (.ref a), some (.int n), some (.int t), some (.ref pd), some (.int le), some (.ref po), some (.ref pr), some (.ref pp), o1, o2] ∧ Same H2 H' ∧ LLs Hs H' pr rs ∧ H' pp = some (.lst (p.map (fun m : Nat => V.int m))) ∧ Rom rs p i ∧ Stay Hs H')
    ⟨_, _, [], [], rfl, z2, .nil hsr, hsp, .start, Stay.refl Hs⟩ ?_ ?_⟩
  · rintro i σ H5 hi ⟨o1, o2, rs, p, rfl, sm5, ll5, hp5, rom5, ss5⟩
    have hi' : i < n := by omega
    have atk := atI_int (ns := xs) (i := (0 : Int) + (i : Int)) (by omega) (by omega)
    have f0 := Int.emod_nonneg (xs.getD ((0 : Int) + (i : Int)).toNat 0) (show (4 : Int) ≠ 0 by decide)
    have f1 := Int.emod_lt_of_pos (xs.getD ((0 : Int) + (i : Int)).toNat 0) (show (0 : Int) < 4 by decide)
    have atu := atI_int (ns := us) (i := xs.getD ((0 : Int) + (i : Int)).toNat 0 % 4) f0 (by omega)
    have bv : 0 ≤ us.getD (xs.getD ((0 : Int) + (i : Int)).toNat 0 % 4).toNat 0 ∧ us.getD (xs.getD ((0 : Int) + (i : Int)).toNat 0 % 4).toNat 0 ≤ 3 := by
      have hlt : (xs.getD ((0 : Int) + (i : Int)).toNat 0 % 4).toNat < us.length := by omega
      rw [List.getD_eq_getElem?_getD, List.getElem?_eq_getElem hlt]
      exact bu _ (List.getElem_mem hlt)
    obtain ⟨c, ec, hc⟩ : ∃ c : Nat, (if (((p.map (fun m : Nat => V.int m)).length : Nat) : Int) < us.getD (xs.getD ((0 : Int) + (i : Int)).toNat 0 % 4).toNat 0 then (((p.map (fun m : Nat => V.int m)).length : Nat) : Int) else us.getD (xs.getD ((0 : Int) + (i : Int)).toNat 0 % 4).toNat 0) = (c : Int) ∧ c ≤ p.length := by
      generalize us.getD (xs.getD ((0 : Int) + (i : Int)).toNat 0 % 4).toNat 0 = v at bv ⊢
      rw [List.length_map]
      split
      · exact ⟨p.length, rfl, Nat.le_refl _⟩
      · exact ⟨v.toNat, by omega, by omega⟩
    have lens5 := rom5.lens
    refine ⟨_, rfl, _, rfl, _, rfl, pd, _, _, _, rfl, rfl, SqL.of (sm5 _ _ hd2), atk, _, _, rfl, rfl, pm (by decide), po, _, _, _, rfl, rfl, SqL.of (sm5 _ _ hpo), atu, _, rfl, pp, _, rfl, .inl (SqL.of hp5), _, _, rfl, (c : Int), congrArg (fun z => [V.int z]) ec, by omega, by omega, for_range (lo := 0) (n := (c : Int).toNat) (fun j σ H' => ∃ (o : Option V) (p' : List Nat), σ = [some (.ref a), some (.int n), some (.int t), some (.ref pd), some (.int le), some (.ref po), some (.ref pr), some (.ref pp), some (.int ((0 : Int) + (i : Int))), o] ∧ Same H2 H' ∧ LLs Hs H' pr rs ∧ H' pp = some (.lst (p'.map (fun m : Nat => V.int m))) ∧ Rom rs p' i ∧ Stay Hs H' ∧ p'.length + j = p.length)
      ⟨_, p, rfl, sm5, ll5, hp5, rom5, ss5, rfl⟩ ?_ ?_⟩
    · rintro j σ H6 hj ⟨o, p', rfl, sm6, ll6, hp6, rom6, ss6, lp⟩
      have hne : p' ≠ [] := fun z => by rw [z] at lp; simp at lp; omega
      obtain ⟨pl0, m, rfl⟩ : ∃ pl0 m, p' = pl0 ++ [m] := ⟨p'.dropLast, p'.getLast hne, (List.dropLast_concat_getLast hne).symm⟩
      have lp0 : (pl0 ++ [m]).length = pl0.length + 1 := by simp
      have hlast : ((pl0 ++ [m]).map (fun m : Nat => V.int m))[((pl0 ++ [m]).map (fun m : Nat => V.int m)).length - 1]? = some (.int m) := by
        rw [List.length_map, lp0, List.map_append, Nat.add_sub_cancel, List.getElem?_append_right (by simp)]
        simp
      have hdl : ((pl0 ++ [m]).map (fun m : Nat => V.int m)).dropLast = pl0.map (fun m : Nat => V.int m) := by rw [List.map_append]; exact List.dropLast_concat
      refine ⟨_, rfl, .inl ⟨rfl, _, SqL.of hp6⟩, pp, _, _, rfl, rfl, hp6, hlast, ?_⟩
      rw [hdl]
      exact ⟨_, pl0, rfl, sm6.upd fpp _, ll6.updC hsp nrp, upd_same, rom6.shut, ss6.upd pp _, by omega⟩
    · rintro σ H6 ⟨o, p6, rfl, sm6, ll6, hp6, rom6, ss6, lp⟩
      obtain ⟨xs6, hx6, lx6⟩ := ll6.len
      have lens6 := rom6.lens
      refine ⟨_, rfl, pp, _, rfl, .inl (SqL.of hp6), rfl, _, rfl, ?_⟩
      by_cases h2 : p6 = []
      · refine iteP (by rw [h2]; rfl) (iteT ?_)
        refine ⟨_, rfl, .inl ⟨rfl, _, SqL.of hp6⟩, _, rfl, pr, _, rfl, .inl (SqL.of hx6), pp, _, _, rfl, rfl, hp6, by rw [List.length_map]; exact sz' (by omega), ?_⟩
        have hx7 := (upd_ne (o := .lst (p6.map (fun m : Nat => V.int m) ++ [.int (xs6.length : Int)])) nrp).trans hx6
        refine ⟨_, rfl, .inl ⟨rfl, _, SqL.of hx7⟩, _, rfl, (by show 1 ≤ sizeLine; decide), fun b hb => ?_⟩
        have nb : pr ≠ b := ne_of_none hx7 hb
        have npb : pp ≠ b := ne_of_none upd_same hb
        have sm7 := sm6.upd fpp (.lst (p6.map (fun m : Nat => V.int m) ++ [.int (xs6.length : Int)]))
        have ll7 := ll6.updC (o := .lst (p6.map (fun m : Nat => V.int m) ++ [.int (xs6.length : Int)])) hsp nrp
        have sk7 : ∀ q, H6 q = none → q ≠ pp → upd H6 pp (.lst (p6.map (fun m : Nat => V.int m) ++ [.int (xs6.length : Int)])) q = none := fun q h n => (upd_ne n).trans h
        refine ⟨pr, _, _, rfl, rfl, (upd_ne nb).trans hx7, sz' (by omega), ?_⟩
        have fb : Hs b = none := by
          have e := hb
          rw [upd_ne (Ne.symm npb)] at e
          exact ss6.free' e
        refine ⟨_, _, rs ++ [[((i : Nat) : Int)]], p6 ++ [rs.length], rfl, ((Same.new sm7 hb _).upd fpr _), ?_, ?_, rom6.opn, ?_⟩
        · have := ll7.snoc hx7 hb fb [((i : Nat) : Int)]
          rw [Int.zero_add]
          exact this
        · rw [upd_ne (Ne.symm nrp), upd_ne npb, upd_same, List.map_append, lx6]
          rfl
        · exact ((ss6.upd pp _).new b).upd pr _

      · refine iteN (fun z => h2 (by injection z with z; rw [List.length_map] at z; exact List.eq_nil_of_length_eq_zero (by omega))) ⟨_, rfl, _, rfl, pd, _, _, _, rfl, rfl, SqL.of (sm6 _ _ hd2), atk, _, _, rfl, rfl, ⟨by decide, by decide +kernel⟩, _, _, rfl, rfl, pm (by decide), _, rfl, _, _, rfl, rfl, _, rfl, ite2 (fun _ => ?_) (fun _ => ?_)⟩
        · skip
          refine ⟨_, rfl, .inl ⟨rfl, _, SqL.of hp6⟩, _, rfl, pr, _, rfl, .inl (SqL.of hx6), pp, _, _, rfl, rfl, hp6, by rw [List.length_map]; exact sz' (by omega), ?_⟩
          have hx7 := (upd_ne (o := .lst (p6.map (fun m : Nat => V.int m) ++ [.int (xs6.length : Int)])) nrp).trans hx6
          refine ⟨_, rfl, .inl ⟨rfl, _, SqL.of hx7⟩, _, rfl, (by show 1 ≤ sizeLine; decide), fun b hb => ?_⟩
          have nb : pr ≠ b := ne_of_none hx7 hb
          have npb : pp ≠ b := ne_of_none upd_same hb
          have sm7 := sm6.upd fpp (.lst (p6.map (fun m : Nat => V.int m) ++ [.int (xs6.length : Int)]))
          have ll7 := ll6.updC (o := .lst (p6.map (fun m : Nat => V.int m) ++ [.int (xs6.length : Int)])) hsp nrp
          have sk7 : ∀ q, H6 q = none → q ≠ pp → upd H6 pp (.lst (p6.map (fun m : Nat => V.int m) ++ [.int (xs6.length : Int)])) q = none := fun q h n => (upd_ne n).trans h
          refine ⟨pr, _, _, rfl, rfl, (upd_ne nb).trans hx7, sz' (by omega), ?_⟩
          have fb : Hs b = none := by
            have e := hb
            rw [upd_ne (Ne.symm npb)] at e
            exact ss6.free' e
          refine ⟨_, _, rs ++ [[((i : Nat) : Int)]], p6 ++ [rs.length], rfl, ((Same.new sm7 hb _).upd fpr _), ?_, ?_, rom6.opn, ?_⟩
          · have := ll7.snoc hx7 hb fb [((i : Nat) : Int)]
            rw [Int.zero_add]
            exact this
          · rw [upd_ne (Ne.symm nrp), upd_ne npb, upd_same, List.map_append, lx6]
            rfl
          · exact ((ss6.upd pp _).new b).upd pr _

        · obtain ⟨pl0, m, rfl⟩ : ∃ pl0 m, p6 = pl0 ++ [m] := ⟨p6.dropLast, p6.getLast h2, (List.dropLast_concat_getLast h2).symm⟩
          have hm : m < rs.length := lens6.2.1 m (by simp)
          obtain ⟨b, hb1, hb2, hb3, hb4⟩ := ll6.get hx6 (List.getElem?_eq_getElem hm)
          have atl : atI ((pl0 ++ [m]).map (fun m : Nat => V.int m)) (-1) = some (.int m) := by rw [List.map_append]; exact atI_last _ _
          have hml := lens6.2.2.2 rs[m] (List.getElem_mem hm)
          have nbp : pp ≠ b := fun z => by rw [← z, hsp] at hb3; cases hb3
          refine ⟨_, rfl, _, rfl, _, rfl, pp, _, _, _, rfl, rfl, SqL.of hp6, atl, pr, _, _, _, rfl, rfl, SqL.of hx6, atI_nat hb1, .inl ⟨rfl, _, SqL.of hb2⟩, _, rfl, b, _, _, rfl, rfl, hb2, by rw [List.length_map]; exact sz' (by omega), ?_⟩
          refine ⟨_, _, rs.set m (rs[m] ++ [((i : Nat) : Int)]), pl0 ++ [m], rfl, sm6.upd (z2.free hb3) _, ?_, (upd_ne nbp).trans hp6, rom6.put (List.getElem?_eq_getElem hm), ss6.upd b _⟩
          have := ll6.put hx6 hb1 (rs[m] ++ [((i : Nat) : Int)])
          rw [List.map_append] at this
          rw [Int.zero_add]
          exact this
  · rintro σ H5 ⟨o1, o2, rs, p, rfl, sm5, ll5, hp5, rom5, ss5⟩
    exact ⟨_, rfl, q pr rs p H5 (s4.trans sm5) (s4.free fpr) (ll5.since (s4.trans z2)) rom5⟩
theorem ok__law_joined {ca : ClA} (CA : ClOk K mg ca) {f : Addr} {fd : FuncData} (F : Fun K "_law_joined" "_law_joined" s__law_joined f fd) : FnOk P w K mg base CX0 1 f fd ["_law_left", "_law_right", "_law_i"] (sp__law_joined K ca) := by
  refine F.ok sc__law_joined (fun vs H Q E h => ?_) (fun cdv A outer s H vs Q E hr h => ?_)
  · obtain ⟨l, r, Ha, Hb, i, j, ls, rs, rfl, hl, hr2, rm, rm2, hij, q⟩ := h
    rfl
  obtain ⟨l, r, Ha, Hb, i, j, ls, rs, rfl, hl, hr2, rm, rm2, hij, q⟩ := h
  refine ⟨_, pss_cons (ps_set (i := 3) sc__law_joined.nd rfl (Or.inl rfl) (pe_lst (pa_cons (pe_lst (pa_cons pe_int pa_nil)) pa_nil)))
    (pss_cons (ps_for PassesOwn.never rfl (pi_list (pv 0)) (pg_name (i := 4) sc__law_joined.nd rfl (Or.inl rfl)) (pss_one (ps_if (pt_cmpR op_eq (pe_ix ix_list (pv 4) (pe_un un_neg pe_int) (fun _ _ => rfl)) (pe_op op_sub (pv 2) pe_int) (nomark _)) (pss_one (ps_asg (pe_op op_cat (pe_lst (pa_cons pe_int pa_nil)) (pe_comp rfl (pi_list (pv 4)) rfl rfl rfl rfl (N := ["_law_number"]) (.own .nil) (fun _ _ _ _ _ _ => (pg_name (i := 0) (by show List.Nodup (["_law_number"] : List Str); decide +kernel) rfl (Or.inl rfl))) (fun _ _ _ _ _ _ => pts_nil) (fun _ _ _ _ _ _ => (pe_op op_add (pv 0) pe_int)))) (pg_sub (pv 3) pe_int set_list))) (pss_one (ps_expr (pe_bm PySem.F.plainAttrs_list PySem.F.slot_list_append PySem.F.type_list_append mt_append (pv 3) (pa_cons (pe_comp rfl (pi_list (pv 4)) rfl rfl rfl rfl (N := ["_law_number"]) (.own .nil) (fun _ _ _ _ _ _ => (pg_name (i := 0) (by show List.Nodup (["_law_number"] : List Str); decide +kernel) rfl (Or.inl rfl))) (fun _ _ _ _ _ _ => pts_nil) (fun _ _ _ _ _ _ => (pe_op op_add (pv 0) pe_int))) pa_nil)))))))
    (pss_cons (ps_for PassesOwn.never rfl (pi_list (pv 1)) (pg_name (i := 4) sc__law_joined.nd rfl (Or.inl rfl)) (pss_one (ps_expr (pe_bm PySem.F.plainAttrs_list PySem.F.slot_list_append PySem.F.type_list_append mt_append (pv 3) (pa_cons (pe_comp rfl (pi_list (pv 4)) rfl rfl rfl rfl (N := ["_law_number", "_law_i"]) (.own (.cap (j := 2) rfl rfl rfl .nil)) (fun _ _ _ _ _ _ => (pg_name (i := 0) (by show List.Nodup (["_law_number", "_law_i"] : List Str); decide +kernel) rfl (Or.inl rfl))) (fun _ _ _ _ _ _ => pts_nil) (fun _ _ _ _ _ _ => (pe_op op_add (pe_op op_add (pv 0) (pv 1)) pe_int))) pa_nil)))))
    (pss_one (ps_ret (pv 3))))), ?_⟩
  obtain ⟨xs, el, lxs⟩ := hl.len
  obtain ⟨zs, ez, lzs⟩ := hr2.len
  have ln := rm.lens
  have ln2 := rm2.lens
  refine ⟨(by show 1 ≤ sizeLine; decide), fun q0 hq0 => ⟨(by show 1 ≤ sizeLine; decide), fun pr hpr => ?_⟩⟩
  have s1 := Same.new (Same.refl H) hq0 (.lst [.int 0])
  have s2 := Same.new s1 hpr (.lst [.ref q0])
  have n0 : q0 ≠ pr := ne_of_none upd_same hpr
  have fpr : H pr = none := s1.free hpr
  have l2 : LLs H (upd (upd H q0 (.lst [.int 0])) pr (.lst [.ref q0])) pr [[(0 : Int)]] := ⟨[q0], upd_same, .cons ⟨(upd_ne n0).trans upd_same, hq0, n0⟩ .nil, by simp⟩
  have st2 : Stay H (upd (upd H q0 (.lst [.int 0])) pr (.lst [.ref q0])) := fun b hb => s2.free hb
  generalize upd (upd H q0 (.lst [.int 0])) pr (.lst [.ref q0]) = H2 at s2 l2 st2 ⊢
  -- a room raised
  have up1 : ∀ (d : Int) (ns : List Int), (ns.map V.int).map (fun v => match v with | .int c => V.int (c + d) | v => v) = (rai d ns).map V.int := fun d ns => by unfold rai; rw [List.map_map, List.map_map]; rfl
  refine ⟨_, rfl, l, rfl, ⟨_, SqL.of (s2 _ _ el)⟩, for_list (xs := xs) (fun k σ H' => ∃ (o : Option V), σ = [some (.ref l), some (.ref r), some (.int (i : Int)), some (.ref pr), o] ∧ Same H H' ∧ LLs H H' pr (((0 : Int) :: rai 1 ((ls.take k).filter (isG i)).flatten) :: ((ls.take k).filter fun r => !isG i r).map (rai 1)) ∧ k ≤ ls.length) ⟨_, rfl, s2, l2, Nat.zero_le _⟩ (fun k σ H' _ h => by obtain ⟨o, _, sm, _⟩ := h; exact SqL.of (sm _ _ el)) ?_ ?_⟩
  · rintro k v σ H' hv ⟨o, rfl, sm, lk, hk⟩
    obtain ⟨b, ns, rfl, hn, hb, _⟩ := hl.at el hv
    have hlt : k < ls.length := (List.getElem?_eq_some_iff.mp hn).1
    have hm : ns ∈ ls := List.mem_of_getElem? hn
    have lns := ln.2 ns hm
    have mns : (ns.map V.int).length = ns.length := List.length_map _
    have tk := filter_takeR (f := isG i) hn
    have tk2 := filter_takeR (f := fun r => !isG i r) hn
    obtain ⟨ys, ey, ly⟩ := lk.len
    have lf := List.length_filter_le (fun r => !isG i r) (ls.take k)
    rw [List.length_cons, List.length_map] at ly
    rw [List.length_take] at lf
    have hbk := sm _ _ hb
    refine ⟨_, rfl, _, rfl, b, _, _, _, rfl, rfl, SqL.of hbk, atI_lastD (rm.ne ns hm), _, rfl, _, _, rfl, rfl, rfl, _, rfl, ?_⟩
    by_cases g : ns.getD (ns.length - 1) 0 = (i : Int) - 1
    · have hg : isG i ns = true := decide_eq_true g
      have e0 := great_first rm hn hg
      refine iteP (congrArg V.int g) ⟨(by show 1 ≤ sizeLine; decide), fun qa hqa => ?_⟩
      have k1 := Same.new (Same.refl H') hqa (.lst [.int 0])
      refine ⟨_, rfl, b, rfl, ⟨_, SqL.of (k1 _ _ hbk)⟩, fun D hD => comp_list (fun v => match v with | .int c => .int (c + 1) | v => v) (by rw [mns]; exact sz (by omega)) (SqL.of (k1 _ _ hbk)) hD (fun m x H9 R R0 hx hb9 hR => ?_) ?_⟩
      · obtain ⟨c, rfl⟩ := get_int hx
        exact ⟨Ext.set rfl, ttN (iteT ⟨_, rfl, _, _, rfl, rfl, hR⟩)⟩
      rw [up1]
      have k2 := Same.new k1 hD (.lst ((rai 1 ns).map V.int))
      have n1 : qa ≠ D := ne_of_none upd_same hD
      refine ⟨qa, D, _, _, rfl, rfl, (upd_ne n1).trans upd_same, upd_same, sz (by rw [List.length_map, rai_len]; simp; omega), fun qc hqc => ?_⟩
      have k3 := Same.new k2 hqc (.lst ([.int 0] ++ (rai 1 ns).map V.int))
      have hc3 : upd (upd (upd H' qa (.lst [.int 0])) D (.lst ((rai 1 ns).map V.int))) qc (.lst ([.int 0] ++ (rai 1 ns).map V.int)) qc = some (.lst (((0 : Int) :: rai 1 ns).map V.int)) := upd_same
      generalize upd (upd (upd H' qa (.lst [.int 0])) D (.lst ((rai 1 ns).map V.int))) qc (.lst ([.int 0] ++ (rai 1 ns).map V.int)) = H5 at k3 hc3 ⊢
      have fc : H' qc = none := k2.free hqc
      have hj : ixN ys.length 0 = some 0 := by
        unfold ixN
        rw [if_pos (by decide), if_pos (by omega)]
        rfl
      refine ⟨_, rfl, pr, ys, 0, 0, rfl, rfl, k3 _ _ ey, hj, ?_⟩
      refine ⟨_, rfl, (sm.trans k3).upd fpr _, ?_, hlt⟩
      rw [tk, if_pos hg, e0, List.nil_append, tk2, if_neg (by rw [hg]; decide), List.append_nil]
      have := lk.swap ey k3 fc hc3 (sm.free fc)
      have e1 : [ns].flatten = ns := by simp
      rw [e1]
      exact this
    · have hg : ¬ isG i ns = true := fun z => g (of_decide_eq_true z)
      have hg' : (!isG i ns) = true := by cases e : isG i ns with
        | true => exact absurd e hg
        | false => rfl
      refine iteN (fun z => g (by injection z)) ⟨_, rfl, .inl ⟨rfl, _, SqL.of ey⟩, _, rfl, b, rfl, ⟨_, SqL.of hbk⟩, fun D hD => comp_list (fun v => match v with | .int c => .int (c + 1) | v => v) (by rw [mns]; exact sz (by omega)) (SqL.of hbk) hD (fun m x H9 R R0 hx hb9 hR => ?_) ?_⟩
      · obtain ⟨c, rfl⟩ := get_int hx
        exact ⟨Ext.set rfl, ttN (iteT ⟨_, rfl, _, _, rfl, rfl, hR⟩)⟩
      rw [up1]
      have k1 := Same.new (Same.refl H') hD (.lst ((rai 1 ns).map V.int))
      refine ⟨pr, _, _, rfl, rfl, k1 _ _ ey, sz' (by omega), ?_⟩
      refine ⟨_, rfl, (sm.trans k1).upd fpr _, ?_, hlt⟩
      rw [tk, if_neg hg, List.append_nil, tk2, if_pos hg', List.map_append]
      exact lk.push ey k1 hD upd_same (sm.free hD)
  · rintro σ H5 ⟨o, rfl, s5, l5, hk⟩
    rw [List.take_of_length_le (by omega)] at l5
    have lf := List.length_filter_le (fun r => !isG i r) ls
    refine ⟨_, rfl, r, rfl, ⟨_, SqL.of (s5 _ _ ez)⟩, for_list (xs := zs) (fun k σ H' => ∃ (o : Option V), σ = [some (.ref l), some (.ref r), some (.int (i : Int)), some (.ref pr), o] ∧ Same H H' ∧ LLs H H' pr (((0 : Int) :: rai 1 (ls.filter (isG i)).flatten) :: ((ls.filter fun r => !isG i r).map (rai 1) ++ (rs.take k).map (rai ((i : Int) + 1)))) ∧ k ≤ rs.length) ⟨_, rfl, s5, by rw [List.take_zero, List.map_nil, List.append_nil]; exact l5, Nat.zero_le _⟩ (fun k σ H' _ h => by obtain ⟨o, _, sm, _⟩ := h; exact SqL.of (sm _ _ ez)) ?_ ?_⟩
    · rintro k v σ H' hv ⟨o, rfl, sm, lk, hk⟩
      obtain ⟨b, ns, rfl, hn, hb, _⟩ := hr2.at ez hv
      have hlt : k < rs.length := (List.getElem?_eq_some_iff.mp hn).1
      have lns := ln2.2 ns (List.mem_of_getElem? hn)
      have mns : (ns.map V.int).length = ns.length := List.length_map _
      obtain ⟨ys, ey, ly⟩ := lk.len
      rw [List.length_cons, List.length_append, List.length_map, List.length_map, List.length_take] at ly
      have hbk := sm _ _ hb
      refine ⟨_, rfl, .inl ⟨rfl, _, SqL.of ey⟩, _, rfl, b, rfl, ⟨_, SqL.of hbk⟩, fun D hD => comp_list (fun v => match v with | .int c => .int (c + ((i : Int) + 1)) | v => v) (by rw [mns]; exact sz (by omega)) (SqL.of hbk) hD (fun m x H9 R R0 hx hb9 hR => ?_) ?_⟩
      · obtain ⟨c, rfl⟩ := get_int hx
        refine ⟨Ext.set rfl, ttN (iteT ⟨_, rfl, _, rfl, _, _, rfl, rfl, _, _, rfl, rfl, ?_⟩)⟩
        show R (.int (c + (i : Int) + 1)) H9
        rw [Int.add_assoc]
        exact hR
      rw [up1]
      have k1 := Same.new (Same.refl H') hD (.lst ((rai ((i : Int) + 1) ns).map V.int))
      refine ⟨pr, _, _, rfl, rfl, k1 _ _ ey, sz' (by omega), ?_⟩
      refine ⟨_, rfl, (sm.trans k1).upd fpr _, ?_, hlt⟩
      rw [List.take_add_one, hn, List.map_append, ← List.append_assoc, ← List.cons_append]
      exact lk.push ey k1 hD upd_same (sm.free hD)
    · rintro σ H6 ⟨o, rfl, s6, l6, hk⟩
      rw [List.take_of_length_le (by omega)] at l6
      exact ⟨_, rfl, q pr H6 s6 fpr l6⟩
theorem ok_Rooms__Family___init__ {ca : ClA} (CA : ClOk K mg ca) {fd : FuncData} (F : Fun K "__init__" "Family.__init__" s_Rooms__Family___init__ ca.f_Rooms__Family___init__ fd) : FnOk P w K mg base CX0 1 ca.f_Rooms__Family___init__ fd ["self", "word", "least"] (sp_Rooms__Family___init__ K ca) := by
  refine F.ok sc_Rooms__Family___init__ (fun vs H Q E h => ?_) (fun cdv A outer s H vs Q E hr h => ?_)
  · obtain ⟨x, dx, w, l, rfl, hx, q⟩ := h
    rfl
  obtain ⟨x, dx, w, l, rfl, hx, q⟩ := h
  refine ⟨_, pss_cons (ps_fld (pv 0) (pv 1) rfl)
    (pss_one (ps_fld (pv 0) (pv 2) rfl)), ?_⟩
  refine ⟨_, rfl, _, rfl, x, ca.C_Rooms, dx, _, rfl, hx, CA.c_Rooms, CA.na_Rooms_word, (by show 0 < 1000; decide), ?_⟩
  refine ⟨_, rfl, _, rfl, x, ca.C_Rooms, dx, _, rfl, upd_same, CA.c_Rooms, CA.na_Rooms_least, (by show 1 < 1000; decide), ?_⟩
  exact q _ _ upd_upd (flds_mk w l)
theorem ok_Rooms__SplitFamily___init__ {ca : ClA} (CA : ClOk K mg ca) {fd : FuncData} (F : Fun K "__init__" "SplitFamily.__init__" s_Rooms__SplitFamily___init__ ca.f_Rooms__SplitFamily___init__ fd) {fd0 : FuncData} (d_Rooms__Family___init__ : MDef P w K mg base ["self", "word", "least"] 1 (sp_Rooms__Family___init__ K ca) ca.f_Rooms__Family___init__ fd0) : FnOk P w K mg base CX0 3 ca.f_Rooms__SplitFamily___init__ fd ["self", "word"] (sp_Rooms__SplitFamily___init__ K ca) := by
  refine F.ok sc_Rooms__SplitFamily___init__ (fun vs H Q E h => ?_) (fun cdv A outer s H vs Q E hr h => ?_)
  · obtain ⟨x, dx, w, rfl, hx, q⟩ := h
    rfl
  obtain ⟨x, dx, w, rfl, hx, q⟩ := h
  refine ⟨_, pss_one (ps_expr (pcls CA.m_Family CA.cm_Family___init___Rooms d_Rooms__Family___init__ hr (pa_cons (pv 0) (pa_cons (pv 1) (pa_cons pe_int pa_nil))))), ?_⟩
  exact ⟨_, rfl, _, rfl, x, dx, w, 0, rfl, hx, fun fs H' e f => q fs H' e f⟩
theorem ok_Rooms____init__ {ca : ClA} (CA : ClOk K mg ca) {fd : FuncData} (F : Fun K "__init__" "Rooms.__init__" s_Rooms____init__ ca.f_Rooms____init__ fd) {fd0 : FuncData} (d_Rooms__SplitFamily___init__ : MDef P w K mg base ["self", "word"] 3 (sp_Rooms__SplitFamily___init__ K ca) ca.f_Rooms__SplitFamily___init__ fd0) : FnOk P w K mg base CX0 5 ca.f_Rooms____init__ fd ["self"] (sp_Rooms____init__ K ca) := by
  refine F.ok sc_Rooms____init__ (fun vs H Q E h => ?_) (fun cdv A outer s H vs Q E hr h => ?_)
  · obtain ⟨x, dx, rfl, hx, q⟩ := h
    rfl
  obtain ⟨x, dx, rfl, hx, q⟩ := h
  refine ⟨_, pss_one (ps_expr (pcls CA.m_SplitFamily CA.cm_SplitFamily___init___Rooms d_Rooms__SplitFamily___init__ hr (pa_cons (pv 0) (pa_cons pe_str pa_nil)))), ?_⟩
  exact ⟨_, rfl, x, dx, _, rfl, hx, fun fs H' e f => q fs H' e f⟩
theorem ok__law_copy {ca : ClA} (CA : ClOk K mg ca) {f : Addr} {fd : FuncData} (F : Fun K "_law_copy" "_law_copy" s__law_copy f fd) (m_list : mg "list" = none) : FnOk P w K mg base CX0 1 f fd ["_law_rooms_here"] (sp__law_copy K ca) := by
  refine F.ok sc__law_copy (fun vs H Q E h => ?_) (fun cdv A outer s H vs Q E hr h => ?_)
  · obtain ⟨l, Ha, ls, rfl, hl, hz, q⟩ := h
    rfl
  obtain ⟨l, Ha, ls, rfl, hl, hz, q⟩ := h
  refine ⟨_, pss_one (ps_ret (pe_comp rfl (pi_list (pv 0)) rfl rfl rfl rfl (N := ["_law_room"]) (.own .nil) (fun _ _ _ _ _ _ => (pg_name (i := 0) (by show List.Nodup (["_law_room"] : List Str); decide +kernel) rfl (Or.inl rfl))) (fun _ _ _ _ _ _ => pts_nil) (fun _ _ _ _ _ _ => (pe_callTy (call_list_ofK (K := K) rfl) rfl m_list bb_list (pa_cons (pv 0) pa_nil))))), ?_⟩
  obtain ⟨xs, el, lxs⟩ := hl.len
  refine ⟨_, rfl, l, rfl, ⟨_, SqL.of el⟩, fun D hD => comp_walk (xs := xs) (fun k ys H' => Same H H' ∧ H' D = some (.lst ys) ∧ LLs H H' D (ls.take k) ∧ k ≤ ls.length) (sz (by omega)) ⟨Same.new (Same.refl H) hD _, upd_same, LLs.nil upd_same, Nat.zero_le _⟩ (fun k ys H' hk h => ⟨SqL.of (h.1 _ _ el), ?_⟩) (fun k v ys H' R R0 hx h r r0 => ?_) (fun ys H' h => ?_)⟩
  · obtain ⟨us, eu, lu⟩ := h.2.2.1.len
    rw [h.2.1] at eu
    cases eu
    rw [lu, List.length_take]
    omega
  · obtain ⟨sk, hy, lk, hk⟩ := h
    obtain ⟨b, ns, rfl, hn, hb, _⟩ := hl.at el hx
    have hlt : k < ls.length := (List.getElem?_eq_some_iff.mp hn).1
    refine ⟨Ext.set rfl, ttN (iteT ⟨_, rfl, b, _, rfl, .inl (SqL.of (sk _ _ hb)), fun c hc => ?_⟩)⟩
    have k9 := Same.new (Same.refl H') hc (.lst (ns.map V.int))
    refine r _ _ (k9 _ _ hy) ⟨(sk.trans k9).upd hD _, upd_same, ?_, hlt⟩
    rw [List.take_add_one, hn]
    exact lk.push hy k9 hc upd_same (sk.free hc)
  · obtain ⟨sk, hy, lk, hk⟩ := h
    rw [List.take_of_length_le (by omega)] at lk
    exact q D H' sk hD lk
theorem ok_Rooms__size_of {ca : ClA} (CA : ClOk K mg ca) {fd : FuncData} (F : Fun K "size_of" "Rooms.size_of" s_Rooms__size_of ca.f_Rooms__size_of fd) (m_sum : mg "sum" = none) (m_len : mg "len" = none) : FnOk P w K mg base CX0 1 ca.f_Rooms__size_of fd ["self", "thing"] (sp_Rooms__size_of K ca) := by
  refine F.ok sc_Rooms__size_of (fun vs H Q E h => ?_) (fun cdv A outer s H vs Q E hr h => ?_)
  · obtain ⟨x, l, Ha, i, ls, rfl, hl, rm, hi, q⟩ := h
    rfl
  obtain ⟨x, l, Ha, i, ls, rfl, hl, rm, hi, q⟩ := h
  refine ⟨_, pss_one (ps_ret (pe_callB (call_sum rfl) rfl m_sum bb_sum (pa_cons (pe_comp rfl (pi_list (pv 1)) rfl rfl rfl rfl (N := ["room"]) (.own .nil) (fun _ _ _ _ _ _ => (pg_name (i := 0) (by show List.Nodup (["room"] : List Str); decide +kernel) rfl (Or.inl rfl))) (fun _ _ _ _ _ _ => pts_nil) (fun _ _ _ _ _ _ => (pe_callB (call_len_seqK (K := K) rfl) rfl m_len bb_len (pa_cons (pv 0) pa_nil)))) pa_nil))), ?_⟩
  obtain ⟨xs, el, lxs⟩ := hl.len
  have ln := rm.lens
  refine ⟨_, rfl, l, rfl, ⟨_, SqL.of el⟩, fun D hD => comp_walk (xs := xs) (fun k ys H' => Same H H' ∧ H' D = some (.lst ys) ∧ ys = ((ls.take k).map fun r => (r.length : Int)).map V.int ∧ k ≤ ls.length) (sz (by omega)) ⟨Same.new (Same.refl H) hD _, upd_same, rfl, Nat.zero_le _⟩ (fun k ys H' hk h => ⟨SqL.of (h.1 _ _ el), ?_⟩) (fun k v ys H' R R0 hx h r r0 => ?_) (fun ys H' h => ?_)⟩
  · rw [h.2.2.1, List.length_map, List.length_map, List.length_take]; omega
  · obtain ⟨sm, hy, ey, hk⟩ := h
    obtain ⟨b, ns, rfl, hn, hb, _⟩ := hl.at el hx
    have hlt : k < ls.length := (List.getElem?_eq_some_iff.mp hn).1
    refine ⟨Ext.set rfl, ttN (iteT ⟨_, rfl, b, _, rfl, .inl (SqL.of (sm _ _ hb)), r _ _ hy ⟨sm.upd hD _, upd_same, ?_, hlt⟩⟩)⟩
    rw [List.take_add_one, hn, List.map_append, List.map_append, ← ey, List.length_map]
    rfl
  · obtain ⟨sm, hy, ey, hk⟩ := h
    rw [List.take_of_length_le (by omega)] at ey
    rw [ey] at hy
    refine ⟨D, _, rfl, SqL.of hy, ?_⟩
    rw [rm.size]
    exact q _ sm
theorem ok_raised_by {ca : ClA} (CA : ClOk K mg ca) {f : Addr} {fd : FuncData} (F : Fun K "raised_by" "raised_by" s_raised_by f fd) : FnOk P w K mg base CX0 1 f fd ["numbers", "step"] (sp_raised_by K ca) := by
  refine F.ok sc_raised_by (fun vs H Q E h => ?_) (fun cdv A outer s H vs Q E hr h => ?_)
  · obtain ⟨l, ns, d, rfl, hl, hz, q⟩ := h
    rfl
  obtain ⟨l, ns, d, rfl, hl, hz, q⟩ := h
  refine ⟨_, pss_one (ps_ret (pe_comp rfl (pi_list (pv 0)) rfl rfl rfl rfl (N := ["number", "step"]) (.own (.cap (j := 1) rfl rfl rfl .nil)) (fun _ _ _ _ _ _ => (pg_name (i := 0) (by show List.Nodup (["number", "step"] : List Str); decide +kernel) rfl (Or.inl rfl))) (fun _ _ _ _ _ _ => pts_nil) (fun _ _ _ _ _ _ => (pe_op op_add (pv 0) (pv 1))))), ?_⟩
  have ml : (ns.map V.int).length = ns.length := List.length_map _
  refine ⟨_, rfl, l, rfl, ⟨_, hl⟩, fun D hD => comp_list (fun v => match v with | .int c => .int (c + d) | v => v) (by rw [ml]; exact sz (by omega)) hl hD (fun i x H' R R0 hx hb hR => ?_) ?_⟩
  · obtain ⟨c, rfl⟩ := get_int hx
    exact ⟨Ext.set rfl, ttN (iteT ⟨_, rfl, _, rfl, _, _, rfl, rfl, hR⟩)⟩
  have e1 : (ns.map V.int).map (fun v => match v with | .int c => V.int (c + d) | v => v) = (ns.map (· + d)).map V.int := by rw [List.map_map, List.map_map]; rfl
  rw [e1]
  exact q D _ (Same.new (Same.refl H) hD _) hD upd_same
theorem ok_Rooms__joined {ca : ClA} (CA : ClOk K mg ca) {fd : FuncData} (F : Fun K "joined" "Rooms.joined" s_Rooms__joined ca.f_Rooms__joined fd) {fd0 : FuncData} (d_Rooms__size_of : MDef P w K mg base ["self", "thing"] 1 (sp_Rooms__size_of K ca) ca.f_Rooms__size_of fd0) {f1 : Addr} {fd1 : FuncData} (d_raised_by : Def P w K mg base "raised_by" ["numbers", "step"] 1 (sp_raised_by K ca) f1 fd1) : FnOk P w K mg base CX0 2 ca.f_Rooms__joined fd ["self", "left", "right"] (sp_Rooms__joined K ca) := by
  refine F.ok sc_Rooms__joined (fun vs H Q E h => ?_) (fun cdv A outer s H vs Q E hr h => ?_)
  · obtain ⟨x, dx, l, r, fs, Ha, Hb, i, j, ls, rs, rfl, hx, fno, hl, hr2, rm, rm2, hij, q⟩ := h
    rfl
  obtain ⟨x, dx, l, r, fs, Ha, Hb, i, j, ls, rs, rfl, hx, fno, hl, hr2, rm, rm2, hij, q⟩ := h
  refine ⟨_, pss_cons (ps_set (i := 3) sc_Rooms__joined.nd rfl (Or.inr rfl) (pmeth (pv 0) CA.c_Rooms CA.mt_Rooms_size_of d_Rooms__size_of hr (pa_cons (pv 1) pa_nil)))
    (pss_cons (ps_set (i := 4) sc_Rooms__joined.nd rfl (Or.inl rfl) (pe_lst (pa_cons pe_int pa_nil)))
    (pss_cons (ps_set (i := 5) sc_Rooms__joined.nd rfl (Or.inl rfl) (pe_lst pa_nil))
    (pss_cons (ps_for PassesOwn.never rfl (pi_list (pv 1)) (pg_name (i := 6) sc_Rooms__joined.nd rfl (Or.inl rfl)) (pss_one (ps_if (pt_cmpR op_eq (pe_ix ix_list (pv 6) (pe_un un_neg pe_int) (fun _ _ => rfl)) (pe_op op_sub (pv 3) pe_int) (nomark _)) (pss_one (ps_expr (pe_bm PySem.F.plainAttrs_list PySem.F.slot_list_extend PySem.F.type_list_extend mt_extend (pv 4) (pa_cons (pcall d_raised_by hr (pa_cons (pv 6) (pa_cons pe_int pa_nil))) pa_nil)))) (pss_one (ps_expr (pe_bm PySem.F.plainAttrs_list PySem.F.slot_list_append PySem.F.type_list_append mt_append (pv 5) (pa_cons (pcall d_raised_by hr (pa_cons (pv 6) (pa_cons pe_int pa_nil))) pa_nil)))))))
    (pss_one (ps_ret (pe_op op_cat (pe_op op_cat (pe_lst (pa_cons (pv 4) pa_nil)) (pv 5)) (pe_comp rfl (pi_list (pv 2)) rfl rfl rfl rfl (N := ["room", "left_size"]) (.own (.cap (j := 3) rfl rfl rfl .nil)) (fun _ _ _ _ _ _ => (pg_name (i := 0) (by show List.Nodup (["room", "left_size"] : List Str); decide +kernel) rfl (Or.inl rfl))) (fun _ _ _ _ _ _ => pts_nil) (fun _ _ _ _ _ _ => (pcall d_raised_by hr (pa_cons (pv 0) (pa_cons (pe_op op_add (pv 1) pe_int) pa_nil))))))))))), ?_⟩
  obtain ⟨xs, el, lxs⟩ := hl.len
  obtain ⟨zs, ez, lzs⟩ := hr2.len
  have ln := rm.lens
  have ln2 := rm2.lens
  refine ⟨_, rfl, x, dx, fs, rfl, hx, fno, _, rfl, x, l, Ha, i, ls, rfl, hl, rm, by omega, fun H1 s1 => ?_⟩
  refine ⟨(by show 1 ≤ sizeLine; decide), fun pf hpf => ⟨Nat.zero_le _, fun po hpo => ?_⟩⟩
  have k2 := Same.new s1 hpf (.lst [.int 0])
  have s3 := Same.new k2 hpo (.lst [])
  have fpf : H pf = none := s1.free hpf
  have fpo : H po = none := k2.free hpo
  have nfo : pf ≠ po := ne_of_none upd_same hpo
  have h3f : upd (upd H1 pf (.lst [.int 0])) po (.lst []) pf = some (.lst [.int 0]) := (upd_ne nfo).trans upd_same
  have h3o : upd (upd H1 pf (.lst [.int 0])) po (.lst []) po = some (.lst []) := upd_same
  generalize upd (upd H1 pf (.lst [.int 0])) po (.lst []) = H3 at s3 h3f h3o ⊢
  refine ⟨_, rfl, l, rfl, ⟨_, SqL.of (s3 _ _ el)⟩, for_list (xs := xs) (fun k σ H' => ∃ (o : Option V), σ = [some (.ref x), some (.ref l), some (.ref r), some (.int (i : Int)), some (.ref pf), some (.ref po), o] ∧ Same H H' ∧ Stay H3 H' ∧ H' pf = some (.lst (((0 : Int) :: rai 1 ((ls.take k).filter (isG i)).flatten).map V.int)) ∧ LLs H3 H' po (((ls.take k).filter fun r => !isG i r).map (rai 1)) ∧ k ≤ ls.length) ⟨_, rfl, s3, Stay.refl H3, h3f, LLs.nil h3o, Nat.zero_le _⟩ (fun k σ H' _ h => by obtain ⟨o, _, sm, _⟩ := h; exact SqL.of (sm _ _ el)) ?_ ?_⟩
  · rintro k v σ H' hv ⟨o, rfl, sm, st, hf, ho, hk⟩
    obtain ⟨b, ns, rfl, hn, hb, _⟩ := hl.at el hv
    have hlt : k < ls.length := (List.getElem?_eq_some_iff.mp hn).1
    have hm : ns ∈ ls := List.mem_of_getElem? hn
    have lns := ln.2 ns hm
    have tk := filter_takeR (f := isG i) hn
    have tk2 := filter_takeR (f := fun r => !isG i r) hn
    refine ⟨_, rfl, _, rfl, b, _, _, _, rfl, rfl, SqL.of (sm _ _ hb), atI_lastD (rm.ne ns hm), _, rfl, _, _, rfl, rfl, rfl, _, rfl, ?_⟩
    by_cases g : ns.getD (ns.length - 1) 0 = (i : Int) - 1
    · have hg : isG i ns = true := decide_eq_true g
      have e0 := great_first rm hn hg
      rw [e0] at hf
      refine iteP (congrArg V.int g) ⟨_, rfl, .inl ⟨rfl, _, SqL.of hf⟩, _, rfl, b, ns, 1, rfl, SqL.of (sm _ _ hb), by omega, fun c H5 s5 fc hc => ⟨pf, c, _, _, rfl, rfl, s5 _ _ hf, hc, ?_, ?_⟩⟩
      · simp only [List.length_map, List.flatten_nil, List.length_cons]; exact sz (by unfold rai; simp; omega)
      refine ⟨_, rfl, (sm.trans s5).upd fpf _, (st.same s5).upd pf _, ?_, ?_, hlt⟩
      · rw [upd_same, tk, if_pos hg, e0, List.nil_append, ← List.map_append]
        unfold rai
        simp
      · rw [tk2, if_neg (by rw [hg]; decide), List.append_nil]
        exact (ho.same s5).updC h3f (Ne.symm nfo)
    · have hg : ¬ isG i ns = true := fun z => g (of_decide_eq_true z)
      have hg' : (!isG i ns) = true := by cases e : isG i ns with
        | true => exact absurd e hg
        | false => rfl
      obtain ⟨ys, ey, ly⟩ := ho.len
      have lf := List.length_filter_le (fun r => !isG i r) (ls.take k)
      rw [List.length_map] at ly
      rw [List.length_take] at lf
      refine iteN (fun z => g (by injection z)) ⟨_, rfl, .inl ⟨rfl, _, SqL.of ey⟩, _, rfl, b, ns, 1, rfl, SqL.of (sm _ _ hb), by omega, fun c H5 s5 fc hc => ⟨po, _, _, rfl, rfl, s5 _ _ ey, sz' (by omega), ?_⟩⟩
      refine ⟨_, rfl, (sm.trans s5).upd fpo _, (st.same s5).upd po _, ?_, ?_, hlt⟩
      · rw [upd_ne nfo, tk, if_neg hg, List.append_nil]
        exact s5 _ _ hf
      · rw [tk2, if_pos hg', List.map_append]
        exact ho.push ey s5 fc hc (st.free' fc)
  · rintro σ H5 ⟨o, rfl, sm, st, hf, ho, hk⟩
    rw [List.take_of_length_le (by omega)] at hf ho
    refine ⟨_, rfl, (by show 1 ≤ sizeLine; decide), fun p1 hp1 => ?_⟩
    have k6 := Same.new (Same.refl H5) hp1 (.lst [.ref pf])
    have nf1 : pf ≠ p1 := ne_of_none hf hp1
    have l1 : LLs H (upd H5 p1 (.lst [.ref pf])) p1 [(0 : Int) :: rai 1 (ls.filter (isG i)).flatten] := ⟨[pf], upd_same, .cons ⟨(upd_ne nf1).trans hf, fpf, nf1⟩ .nil, by simp⟩
    have h1 : upd H5 p1 (.lst [.ref pf]) p1 = some (.lst [.ref pf]) := upd_same
    have lo := ho.same k6
    have s6 := sm.trans k6
    generalize upd H5 p1 (.lst [.ref pf]) = H6 at l1 h1 lo s6 ⊢
    obtain ⟨ys, ey, ly⟩ := lo.len
    have lf := List.length_filter_le (fun r => !isG i r) ls
    rw [List.length_map] at ly
    refine ⟨_, rfl, p1, po, _, _, rfl, rfl, h1, ey, sz (by simp; omega), fun p2 hp2 => ?_⟩
    have s7 := Same.new s6 hp2 (.lst ([.ref pf] ++ ys))
    have l2 := l1.cat h1 lo ey s3 (fun c hc => by
      have : c = pf := by simpa using hc
      rw [this, h3f]; simp) hp2
    have h2 : upd H6 p2 (.lst ([.ref pf] ++ ys)) p2 = some (.lst ([.ref pf] ++ ys)) := upd_same
    generalize upd H6 p2 (.lst ([.ref pf] ++ ys)) = H7 at s7 l2 h2 ⊢
    have ez7 := s7 _ _ ez
    refine ⟨_, rfl, r, rfl, ⟨_, SqL.of ez7⟩, fun D hD => comp_walk (xs := zs) (fun k ws H' => Same H7 H' ∧ H' D = some (.lst ws) ∧ LLs H7 H' D ((rs.take k).map (rai ((i : Int) + 1))) ∧ k ≤ rs.length) (sz (by omega)) ⟨Same.new (Same.refl H7) hD _, upd_same, LLs.nil upd_same, Nat.zero_le _⟩ (fun k ws H' hk h => ⟨SqL.of (h.1 _ _ ez7), ?_⟩) (fun k v ws H' R R0 hx h r0 r1 => ?_) (fun ws H' h => ?_)⟩
    · obtain ⟨us, eu, lu⟩ := h.2.2.1.len
      rw [h.2.1] at eu
      cases eu
      rw [lu, List.length_map, List.length_take]
      omega
    · obtain ⟨sk, hw, lk, hk⟩ := h
      obtain ⟨b, ns, rfl, hn, hb, _⟩ := hr2.at ez hx
      have hlt : k < rs.length := (List.getElem?_eq_some_iff.mp hn).1
      have lns := ln2.2 ns (List.mem_of_getElem? hn)
      refine ⟨Ext.set rfl, ttN (iteT ⟨_, rfl, _, rfl, _, _, rfl, rfl, b, ns, _, rfl, SqL.of ((s7.trans sk) _ _ hb), by omega, fun c H9 s9 fc hc => r0 _ _ (s9 _ _ hw) ⟨(sk.trans s9).upd hD _, upd_same, ?_, hlt⟩⟩)⟩
      rw [List.take_add_one, hn, List.map_append]
      exact lk.push hw s9 fc hc (sk.free fc)
    · obtain ⟨sk, hw, lk, hk⟩ := h
      rw [List.take_of_length_le (by omega)] at lk
      obtain ⟨us, eu, lu⟩ := lk.len
      rw [hw] at eu
      cases eu
      rw [List.length_map] at lu
      refine ⟨p2, D, _, _, rfl, rfl, sk _ _ h2, hw, sz (by simp; omega), fun p hp => ?_⟩
      have s8 := s7.trans sk
      refine q p _ (Same.new s8 hp _) (s8.free hp) ?_
      exact (l2.same sk).cat (sk _ _ h2) lk hw s7 (fun c hc z => by
        obtain ⟨b, ns, e, _, hb, _⟩ := l2.mem h2 hc
        cases e
        rw [hb] at z
        cases z) hp
theorem ok_Rooms__parted {ca : ClA} (CA : ClOk K mg ca) {fd : FuncData} (F : Fun K "parted" "Rooms.parted" s_Rooms__parted ca.f_Rooms__parted fd) {f0 : Addr} {fd0 : FuncData} (d_raised_by : Def P w K mg base "raised_by" ["numbers", "step"] 1 (sp_raised_by K ca) f0 fd0) (m_sorted : mg "sorted" = none) : FnOk P w K mg base CX0 2 ca.f_Rooms__parted fd ["self", "thing"] (sp_Rooms__parted K ca) := by
  refine F.ok sc_Rooms__parted (fun vs H Q E h => ?_) (fun cdv A outer s H vs Q E hr h => ?_)
  · obtain ⟨x, d, Ha, i, j, ls, rs, rfl, hl, rm, rm2, hij, q⟩ := h
    rfl
  obtain ⟨x, d, Ha, i, j, ls, rs, rfl, hl, rm, rm2, hij, q⟩ := h
  refine ⟨_, pss_cons (ps_set (i := 2) sc_Rooms__parted.nd rfl (Or.inr rfl) (pe_ix ix_list (pe_ix ix_list (pv 1) pe_int (fun _ _ => rfl)) (pe_un un_neg pe_int) (fun _ _ => rfl)))
    (pss_cons (ps_setComp (i := 3) sc_Rooms__parted.nd rfl (Or.inl rfl) rfl rfl (pi_list (pe_slice sl_list (pv 1) (po_some pe_int) po_none)) rfl rfl rfl rfl (N := ["room", "left_size"]) (.own (.cap (j := 2) rfl rfl rfl .nil)) (fun _ _ _ _ _ _ => (pg_name (i := 0) (by show List.Nodup (["room", "left_size"] : List Str); decide +kernel) rfl (Or.inl rfl))) (fun _ _ _ _ _ _ => (pts_one (pt_cmpR op_lt (pe_ix (ix_listK (K := K) rfl) (pv 0) pe_int (fun _ _ => rfl)) (pv 1) (nomark _)))) (fun _ _ _ _ _ _ => (pcall d_raised_by hr (pa_cons (pv 0) (pa_cons (pe_un un_neg pe_int) pa_nil)))))
    (pss_cons (ps_setComp (i := 4) sc_Rooms__parted.nd rfl (Or.inl rfl) rfl rfl (pi_list (pe_slice sl_list (pv 1) (po_some pe_int) po_none)) rfl rfl rfl rfl (N := ["room", "left_size"]) (.own (.cap (j := 2) rfl rfl rfl .nil)) (fun _ _ _ _ _ _ => (pg_name (i := 0) (by show List.Nodup (["room", "left_size"] : List Str); decide +kernel) rfl (Or.inl rfl))) (fun _ _ _ _ _ _ => (pts_one (pt_cmpR op_gt (pe_ix (ix_listK (K := K) rfl) (pv 0) pe_int (fun _ _ => rfl)) (pv 1) (nomark _)))) (fun _ _ _ _ _ _ => (pcall d_raised_by hr (pa_cons (pv 0) (pa_cons (pe_op op_sub (pe_un un_neg (pv 1)) pe_int) pa_nil)))))
    (pss_cut (ps_if (pt_cmpR op_gt (pv 2) pe_int (nomark _)) (pss_one (ps_expr (pe_bm PySem.F.plainAttrs_list PySem.F.slot_list_append PySem.F.type_list_append mt_append (pv 3) (pa_cons (pcall d_raised_by hr (pa_cons (pe_slice sl_list (pe_ix ix_list (pv 1) pe_int (fun _ _ => rfl)) (po_some pe_int) po_none) (pa_cons (pe_un un_neg pe_int) pa_nil))) pa_nil)))) pss_nil)
    (pss_one (ps_ret (pe_tup (pa_cons (pe_callB (call_sortedL (hu100 hr)) rfl m_sorted bb_sorted (pa_cons (pv 3) pa_nil)) (pa_cons (pv 4) pa_nil)))))))), ?_⟩
  obtain ⟨xs, el, lxs⟩ := hl.len
  have ln := rm.lens
  have ln2 := rm2.lens
  have lj := joinR_len rm rm2
  have jne := joinR_ne rm rm2
  have j0 : (joinR i ls rs)[0]? = some ((0 : Int) :: rai 1 (ls.filter (isG i)).flatten) := rfl
  obtain ⟨b0, g0, hb0, _⟩ := hl.get el j0
  have at0 : atI xs 0 = some (.ref b0) := atI_nat (j := 0) g0
  have atl : atI (((0 : Int) :: rai 1 (ls.filter (isG i)).flatten).map V.int) (-1) = some (.int (i : Int)) := by
    rw [atI_lastD (by simp), first_last rm]
  have l0 : xs.length = (joinR i ls rs).tail.length + 1 := by rw [lxs]; unfold joinR; simp
  have tl : ∀ (k : Nat), (xs.drop 1)[k]? = xs[k + 1]? ∧ (joinR i ls rs).tail[k]? = (joinR i ls rs)[k + 1]? := fun k => ⟨by rw [List.getElem?_drop, Nat.add_comm], by rw [List.getElem?_tail]⟩
  have cut : cutV xs (some 1) none = xs.drop 1 := cutV_from xs 1
  have ld : (xs.drop 1).length = (joinR i ls rs).tail.length := by rw [List.length_drop]; omega
  refine ⟨_, rfl, d, _, _, _, rfl, rfl, SqL.of el, at0, _, rfl, b0, _, _, _, rfl, rfl, SqL.of hb0, atl, ?_⟩
  refine ⟨_, rfl, _, rfl, d, _, rfl, SqL.of el, fun c1 hc1 => ?_⟩
  rw [cut]
  have s1 := Same.new (Same.refl H) hc1 (.lst (xs.drop 1))
  have hc1' : upd H c1 (.lst (xs.drop 1)) c1 = some (.lst (xs.drop 1)) := upd_same
  generalize upd H c1 (.lst (xs.drop 1)) = H1 at s1 hc1' ⊢
  refine ⟨c1, rfl, ⟨_, SqL.of hc1'⟩, fun D1 hD1 => comp_walk (xs := xs.drop 1) (fun k ys H' => Same H1 H' ∧ H' D1 = some (.lst ys) ∧ LLs H1 H' D1 ((((joinR i ls rs).tail.take k).filter fun r => decide (hd r < (i : Int))).map (rai (-1))) ∧ k ≤ (joinR i ls rs).tail.length) (sz (by omega)) ⟨Same.new (Same.refl H1) hD1 _, upd_same, LLs.nil upd_same, Nat.zero_le _⟩ (fun k ys H' hk h => ⟨SqL.of (h.1 _ _ hc1'), ?_⟩) (fun k v ys H' R R0 hx h r r0 => ?_) (fun ys1 H2 h => ?_)⟩
  · obtain ⟨us, eu, lu⟩ := h.2.2.1.len
    rw [h.2.1] at eu
    cases eu
    rw [lu, List.length_map]
    exact Nat.le_trans (List.length_filter_le _ _) (by rw [List.length_take]; omega)
  · obtain ⟨sk, hy, lk, hk⟩ := h
    rw [(tl k).1] at hx
    obtain ⟨b, ns, rfl, hn, hb, _⟩ := hl.at el hx
    have hn' := (tl k).2.trans hn
    have hlt : k < (joinR i ls rs).tail.length := (List.getElem?_eq_some_iff.mp hn').1
    have hm := List.mem_of_getElem? hn
    have lns := lj.2 ns hm
    have tk := filter_takeR (f := fun r => decide (hd r < (i : Int))) hn'
    have hbk := (s1.trans sk) _ _ hb
    refine ⟨Ext.set rfl, _, rfl, b, _, _, _, rfl, rfl, SqL.of hbk, atI_hd (jne ns hm), _, rfl, _, _, rfl, rfl, _, rfl, ?_⟩
    by_cases e1 : hd ns < (i : Int)
    · refine iteP e1 ⟨_, rfl, _, rfl, b, ns, -1, rfl, SqL.of hbk, by omega, fun c H9 s9 fc hc => r _ _ (s9 _ _ hy) ⟨(sk.trans s9).upd hD1 _, upd_same, ?_, hlt⟩⟩
      rw [tk, if_pos (decide_eq_true e1), List.map_append]
      exact lk.push hy s9 fc hc (sk.free fc)
    · refine iteN e1 (r0 _ ⟨sk, hy, ?_, hlt⟩)
      rw [tk, if_neg (fun z => e1 (of_decide_eq_true z)), List.append_nil]
      exact lk
  obtain ⟨s2, hD1', lw, _⟩ := h
  rw [List.take_of_length_le (by omega), join_in rm rm2, rai_map] at lw
  have s12 := s1.trans s2
  have el2 := s12 _ _ el
  have hb2 := s12 _ _ hb0
  refine ⟨_, rfl, _, rfl, d, _, rfl, SqL.of el2, fun c2 hc2 => ?_⟩
  rw [cut]
  have k3 := Same.new (Same.refl H2) hc2 (.lst (xs.drop 1))
  have hc2' : upd H2 c2 (.lst (xs.drop 1)) c2 = some (.lst (xs.drop 1)) := upd_same
  generalize upd H2 c2 (.lst (xs.drop 1)) = H3 at k3 hc2' ⊢
  have s3 := s12.trans k3
  refine ⟨c2, rfl, ⟨_, SqL.of hc2'⟩, fun D2 hD2 => comp_walk (xs := xs.drop 1) (fun k ys H' => Same H3 H' ∧ H' D2 = some (.lst ys) ∧ LLs H3 H' D2 ((((joinR i ls rs).tail.take k).filter fun r => decide (hd r > (i : Int))).map (rai (-(i : Int) - 1))) ∧ k ≤ (joinR i ls rs).tail.length) (sz (by omega)) ⟨Same.new (Same.refl H3) hD2 _, upd_same, LLs.nil upd_same, Nat.zero_le _⟩ (fun k ys H' hk h => ⟨SqL.of (h.1 _ _ hc2'), ?_⟩) (fun k v ys H' R R0 hx h r r0 => ?_) (fun ys2 H4 h => ?_)⟩
  · obtain ⟨us, eu, lu⟩ := h.2.2.1.len
    rw [h.2.1] at eu
    cases eu
    rw [lu, List.length_map]
    exact Nat.le_trans (List.length_filter_le _ _) (by rw [List.length_take]; omega)
  · obtain ⟨sk, hy, lk, hk⟩ := h
    rw [(tl k).1] at hx
    obtain ⟨b, ns, rfl, hn, hb, _⟩ := hl.at el hx
    have hn' := (tl k).2.trans hn
    have hlt : k < (joinR i ls rs).tail.length := (List.getElem?_eq_some_iff.mp hn').1
    have hm := List.mem_of_getElem? hn
    have lns := lj.2 ns hm
    have tk := filter_takeR (f := fun r => decide (hd r > (i : Int))) hn'
    have hbk := (s3.trans sk) _ _ hb
    refine ⟨Ext.set rfl, _, rfl, b, _, _, _, rfl, rfl, SqL.of hbk, atI_hd (jne ns hm), _, rfl, _, _, rfl, rfl, _, rfl, ?_⟩
    by_cases e1 : hd ns > (i : Int)
    · refine iteP e1 ⟨_, rfl, _, rfl, _, rfl, _, _, rfl, rfl, b, ns, _, rfl, SqL.of hbk, by omega, fun c H9 s9 fc hc => r _ _ (s9 _ _ hy) ⟨(sk.trans s9).upd hD2 _, upd_same, ?_, hlt⟩⟩
      rw [tk, if_pos (decide_eq_true e1), List.map_append]
      exact lk.push hy s9 fc hc (sk.free fc)
    · refine iteN e1 (r0 _ ⟨sk, hy, ?_, hlt⟩)
      rw [tk, if_neg (fun z => e1 (of_decide_eq_true z)), List.append_nil]
      exact lk
  obtain ⟨s4, hD2', lb, _⟩ := h
  rw [List.take_of_length_le (by omega), join_out rm rm2, show -(i : Int) - 1 = -((i : Int) + 1) by omega, rai_map] at lb
  have k34 := k3.trans s4
  have s34 := s3.trans s4
  have fD1 : H D1 = none := s1.free hD1
  have fD2 : H D2 = none := s3.free hD2
  have w4 := s34 _ _ el
  have n12 : D1 ≠ D2 := ne_of_none (k3 _ _ hD1') hD2
  have lf := List.length_filter_le (fun r => !isG i r) ls
  -- what lies in within, and that it is apart from behind
  refine ⟨fun σ H' => ∃ (ws : List V), σ = [some (.ref x), some (.ref d), some (.int (i : Int)), some (.ref D1), some (.ref D2)] ∧ Same H H' ∧ H' D1 = some (.lst ws) ∧ LLs H H' D1 ((ls.filter fun r => !isG i r) ++ ls.filter (isG i)) ∧ LLs H H' D2 rs ∧ H' D2 = some (.lst ys2) ∧ (∀ c, V.ref c ∈ ws → c ≠ D2 ∧ V.ref c ∉ ys2), ?_, ?_⟩
  · have inW : ∀ c, V.ref c ∈ ys1 → c ≠ D2 ∧ V.ref c ∉ ys2 := fun c hc => by
      obtain ⟨b, ns, e, _, hb, _⟩ := lw.mem hD1' hc
      cases e
      have hb3 := k3 _ _ hb
      refine ⟨ne_of_none hb3 hD2, fun hc2 => ?_⟩
      obtain ⟨b, ns, e, _, _, hb, _⟩ := lb.mem hD2' hc2
      cases e
      rw [hb] at hb3
      cases hb3
    refine ⟨_, rfl, _, _, rfl, rfl, _, rfl, ?_⟩
    by_cases h0 : (i : Int) > 0
    · obtain ⟨R, eR, hR, _⟩ := great_is rm (show 0 < i by omega)
      have lR := ln.2 R hR
      rw [eR] at hb0
      have hb4 := s34 _ _ hb0
      have e1 : [R].flatten = R := by simp
      rw [e1] at hb4
      have hD14 := k34 _ _ hD1'
      refine iteP h0 ⟨_, rfl, .inl ⟨rfl, _, SqL.of hD14⟩, _, rfl, d, _, _, _, rfl, rfl, SqL.of w4, at0, _, rfl, b0, _, rfl, SqL.of hb4, fun c3 hc3 => ?_⟩
      have c4 : cutV (((0 : Int) :: rai 1 R).map V.int) (some 1) none = (rai 1 R).map V.int := by
        refine (cutV_from _ 1).trans ?_
        rw [List.map_cons, List.drop_succ_cons, List.drop_zero]
      rw [c4]
      have k5 := Same.new (Same.refl H4) hc3 (.lst ((rai 1 R).map V.int))
      have hc3' : upd H4 c3 (.lst ((rai 1 R).map V.int)) c3 = some (.lst ((rai 1 R).map V.int)) := upd_same
      generalize upd H4 c3 (.lst ((rai 1 R).map V.int)) = H5 at k5 hc3' ⊢
      refine ⟨_, rfl, c3, rai 1 R, -1, rfl, SqL.of hc3', by rw [rai_len]; omega, fun b H6 s6 fb hb => ?_⟩
      have hb' : H6 b = some (.lst (R.map V.int)) := by
        rw [hb]
        exact congrArg (fun z : List Int => some (HO.lst (z.map V.int))) (rai_rai 1 R)
      have k46 := k5.trans s6
      have hD16 := k46 _ _ hD14
      have hD26 := k46 _ _ hD2'
      have f4b : H4 b = none := k5.free fb
      have k26 := k34.trans k46
      obtain ⟨us, eu, lu⟩ := lw.len
      rw [hD1'] at eu
      cases eu
      refine ⟨D1, _, _, rfl, rfl, hD16, sz' (by omega), ?_⟩
      refine ⟨_, rfl, (s34.trans k46).upd fD1 _, upd_same, ?_, ?_, (upd_ne (Ne.symm n12)).trans hD26, fun c hc => ?_⟩
      · rw [eR]
        exact ((lw.since s1).same k34).push hD14 k46 f4b hb' (s34.free f4b)
      · exact ((lb.same k46).updC (k3 _ _ hD1') (Ne.symm n12)).since s3
      · rcases List.mem_append.mp hc with z | z
        · exact inW c z
        · have : c = b := by simpa using z
          subst this
          refine ⟨fun z => (by rw [z, hD2'] at f4b; cases f4b), fun z => ?_⟩
          obtain ⟨b', ns, e, _, hbb, _⟩ := lb.mem hD2' z
          cases e
          rw [hbb] at f4b
          cases f4b
    · have e0 : i = 0 := by omega
      have eN : ls.filter (isG i) = [] := by rw [none_of rm e0]; rfl
      refine iteN h0 ⟨ys1, rfl, s34, k34 _ _ hD1', ?_, lb.since s3, hD2', inW⟩
      rw [eN, List.append_nil]
      exact (lw.since s1).same k34
  rintro σ H5 ⟨ws, rfl, s5, hw, lw5, lb5, hD25, ap⟩
  have lf2 := great_one rm
  refine ⟨_, rfl, D1, H, _, rfl, lw5, by rw [List.length_append]; omega, fun p1 ss H6 s6 f6 l6 pm6 ri6 mem6 => ?_⟩
  have es := left_back rm pm6 ri6
  subst es
  refine ⟨_, rfl, (by show 2 ≤ sizeLine; decide), fun t ht => ?_⟩
  have s7 := Same.new (Same.refl H6) ht (.tup [.ref p1, .ref D2])
  obtain ⟨vs1, ev1, _⟩ := l6.len
  have np : D2 ≠ p1 := fun z => by rw [z] at hD25; rw [hD25] at f6; cases f6
  refine q t p1 D2 _ ((s5.trans s6).trans s7) (s5.free f6) fD2 upd_same (l6.same s7) ((lb5.same s6).same s7) ?_
  have key : ∀ c, (∀ v, V.ref c ∈ ws → False) → c ≠ p1 → Off (upd H6 t (.tup [.ref p1, .ref D2])) p1 c := fun c hc n => ⟨n, fun zs hz hm => by
    rw [s7 _ _ ev1] at hz
    cases hz
    exact hc () (mem6 _ _ hw ev1 _ hm)⟩
  refine ⟨key D2 (fun _ z => (ap D2 z).1 rfl) np, fun zs c hz hm => ?_⟩
  rw [s7 _ _ (s6 _ _ hD25)] at hz
  cases hz
  refine key c (fun _ z => (ap c z).2 hm) (fun z => ?_)
  obtain ⟨b, ns, e, _, hbb, _⟩ := lb5.mem hD25 hm
  cases e
  rw [z, f6] at hbb
  cases hbb
theorem ok_Rooms__bare {ca : ClA} (CA : ClOk K mg ca) {fd : FuncData} (F : Fun K "bare" "Rooms.bare" s_Rooms__bare ca.f_Rooms__bare fd) : FnOk P w K mg base CX0 1 ca.f_Rooms__bare fd ["self"] (sp_Rooms__bare K ca) := by
  refine F.ok sc_Rooms__bare (fun vs H Q E h => ?_) (fun cdv A outer s H vs Q E hr h => ?_)
  · obtain ⟨x, rfl, q⟩ := h
    rfl
  obtain ⟨x, rfl, q⟩ := h
  refine ⟨_, pss_one (ps_ret (pe_lst pa_nil)), ?_⟩
  exact ⟨Nat.zero_le _, fun p hp => q p _ (Same.new (Same.refl H) hp _) hp upd_same⟩
theorem ok__law_alike {ca : ClA} (CA : ClOk K mg ca) {f : Addr} {fd : FuncData} (F : Fun K "_law_alike" "_law_alike" s__law_alike f fd) (m_isinstance : mg "isinstance" = none) (m_int : mg "int" = none) (m_bool : mg "bool" = none) (m_list : mg "list" = none) (m_tuple : mg "tuple" = none) (m_len : mg "len" = none) (m_range : mg "range" = none) (n : Nat) (d_self : Def P w K mg base "_law_alike" ["_law_found", "_law_due"] (0 + n) (below n fun m => sp__law_alike K ca m) f fd) : FnOk P w K mg base (CX1 P w) (0 + n + 1) f fd ["_law_found", "_law_due"] (sp__law_alike K ca n) := by
  refine FnOk.up ?_
  refine F.ok sc__law_alike (fun vs H Q E h => ?_) (fun cdv A outer s H vs Q E hr h => ?_)
  · obtain ⟨x, y, t, rfl, rx, ry, hd, q⟩ := h
    rfl
  obtain ⟨x, y, t, rfl, rx, ry, hd, q⟩ := h
  refine ⟨_, pss_cons (ps_if (pt_val (pe_callB call_isinst rfl m_isinstance bb_isinstance (pa_cons (pv 1) (pa_cons (pe_bltn (v := .ty "int") rfl m_int bb_int rfl) pa_nil)))) (pss_one (ps_ret (pe_and (pe_callB call_isinst rfl m_isinstance bb_isinstance (pa_cons (pv 0) (pa_cons (pe_bltn (v := .ty "int") rfl m_int bb_int rfl) pa_nil))) (pe_and (pe_not (pe_callB call_isinst rfl m_isinstance bb_isinstance (pa_cons (pv 0) (pa_cons (pe_bltn (v := .ty "bool") rfl m_bool bb_bool rfl) pa_nil)))) (pe_one (pe_cmpR op_eq (pv 0) (pv 1) (nomark _))))))) pss_nil)
    (pss_cons (ps_if (pt_val (pe_callB call_isinst rfl m_isinstance bb_isinstance (pa_cons (pv 1) (pa_cons (pe_bltn (v := .ty "list") rfl m_list bb_list rfl) pa_nil)))) (pss_one (ps_if (pt_not (pt_val (pe_callB call_isinst rfl m_isinstance bb_isinstance (pa_cons (pv 0) (pa_cons (pe_bltn (v := .ty "list") rfl m_list bb_list rfl) pa_nil))))) (pss_one (ps_ret pe_bl)) pss_nil)) (pss_one (ps_if (pt_not (pt_val (pe_callB call_isinst rfl m_isinstance bb_isinstance (pa_cons (pv 0) (pa_cons (pe_bltn (v := .ty "tuple") rfl m_tuple bb_tuple rfl) pa_nil))))) (pss_one (ps_ret pe_bl)) pss_nil)))
    (pss_cons (ps_if (pt_cmpR op_ne (pe_callB call_len_seq rfl m_len bb_len (pa_cons (pv 0) pa_nil)) (pe_callB call_len_seq rfl m_len bb_len (pa_cons (pv 1) pa_nil)) (nomark _)) (pss_one (ps_ret pe_bl)) pss_nil)
    (pss_cons (ps_for PassesOwn.never rfl (pi_range1 rfl m_range (pa_cons (pe_callB call_len_seq rfl m_len bb_len (pa_cons (pv 1) pa_nil)) pa_nil)) (pg_name (i := 2) sc__law_alike.nd rfl (Or.inl rfl)) (pss_one (ps_if (pt_not (pt_val (pcall d_self hr (pa_cons (pe_ix ix_seq (pv 0) (pv 2) (fun _ _ => rfl)) (pa_cons (pe_ix ix_seq (pv 1) (pv 2) (fun _ _ => rfl)) pa_nil)) (hjk := by omega)))) (pss_one (ps_ret pe_bl)) pss_nil)))
    (pss_one (ps_ret pe_bl))))), ?_⟩
  rcases t with i | ts | ts
  · unfold Rep at rx ry
    subst rx ry
    exact ⟨_, rfl, _, _, _, _, _, rfl, relTy, .int _, kit_int_int, _, rfl, iteT ⟨_, rfl, _, _, _, _, _, rfl, relTy, .int _, kit_int_int, _, rfl, iteT ⟨_, rfl, _, _, _, _, _, rfl, relTy, .int _, kit_int_bool, _, rfl, _, rfl, iteT ⟨_, rfl, _, rfl, rfl, by rw [decide_eq_true rfl]; exact q⟩⟩⟩⟩
  all_goals
    unfold Rep at rx ry
    unfold dep at hd
    obtain ⟨p, xs, rfl, hp, lts, rx⟩ := rx
    obtain ⟨r, ys, rfl, hr', _, ry⟩ := ry
    have sx : SqL K H p xs ∨ SqT K H p xs := by first | exact .inl (SqL.of hp) | exact .inr (SqT.of hp)
    have sy : SqL K H r ys ∨ SqT K H r ys := by first | exact .inl (SqL.of hr') | exact .inr (SqT.of hr')
    have l1 := rx.length
    have l2 := ry.length
    have e0 : V.int (xs.length : Int) = V.int (ys.length : Int) := congrArg V.int (by omega)
    first
      | refine ⟨_, rfl, _, _, _, _, _, rfl, relTy, .lst hr', kit_list_int, _, rfl, iteF ⟨_, rfl, _, _, _, _, _, rfl, relTy, .lst hr', kit_list_list, _, rfl, iteT ⟨_, rfl, _, _, _, _, _, rfl, relTy, .lst hp, kit_list_list, _, rfl, iteF ?_⟩⟩⟩
      | refine ⟨_, rfl, _, _, _, _, _, rfl, relTy, .tup hr', kit_tuple_int, _, rfl, iteF ⟨_, rfl, _, _, _, _, _, rfl, relTy, .tup hr', kit_tuple_list, _, rfl, iteF ⟨_, rfl, _, _, _, _, _, rfl, relTy, .tup hp, kit_tuple_tuple, _, rfl, iteF ?_⟩⟩⟩
    refine ⟨_, rfl, p, xs, rfl, sx, _, rfl, r, ys, rfl, sy, rfl, _, rfl, iteNS e0 ?_⟩
    refine ⟨_, rfl, r, ys, rfl, sy, _, rfl, by omega, by omega, for_range (lo := 0) (n := ((ys.length : Nat) : Int).toNat) (fun i σ H' => H = H' ∧ ∃ o, σ = [some (.ref p), some (.ref r), o]) ⟨rfl, _, rfl⟩ ?_ ?_⟩
    · rintro i σ H' hi ⟨rfl, o, rfl⟩
      have hi' : i < ys.length := by omega
      obtain ⟨t1, et1, r1⟩ := rx.get (List.getElem?_eq_getElem (show i < xs.length by omega))
      obtain ⟨t2, et2, r2⟩ := ry.get (List.getElem?_eq_getElem hi')
      rw [et1] at et2
      cases et2
      have dt := depL_mem et1
      have ax : atI xs ((0 : Int) + (i : Int)) = some xs[i] := by rw [Int.zero_add]; exact atI_nat (List.getElem?_eq_getElem (show i < xs.length by omega))
      have ay : atI ys ((0 : Int) + (i : Int)) = some ys[i] := by rw [Int.zero_add]; exact atI_nat (List.getElem?_eq_getElem hi')
      have ix : ∀ (a : Addr) (zs : List V) (z : V) (Q' : VK), (SqL K H a zs ∨ SqT K H a zs) → atI zs ((0 : Int) + (i : Int)) = some z → Q' z H → rIx K (.ref a) (.int ((0 : Int) + (i : Int))) H Q' := fun a zs z Q' h e q => by
        rcases h with h | h
        · exact .inl ⟨a, _, _, _, rfl, rfl, h, e, q⟩
        · exact .inr (.inl ⟨a, _, _, _, rfl, rfl, h, e, q⟩)
      exact ⟨_, rfl, _, rfl, ix p xs _ _ sx ax ⟨_, rfl, _, rfl, ix r ys _ _ sy ay ⟨dep t1, by omega, _, _, t1, rfl, r1, r2, Nat.le_refl _, _, rfl, iteF ⟨rfl, _, rfl⟩⟩⟩⟩
    · rintro σ H' ⟨rfl, o, rfl⟩
      exact q
theorem ok__law_spoiled {ca : ClA} (CA : ClOk K mg ca) {f : Addr} {fd : FuncData} (F : Fun K "_law_spoiled" "_law_spoiled" s__law_spoiled f fd) : FnOk P w K mg base CX0 1 f fd ["_law_rooms_here"] (sp__law_spoiled K ca) := by
  refine F.ok sc__law_spoiled (fun vs H Q E h => ?_) (fun cdv A outer s H vs Q E hr h => ?_)
  · obtain ⟨l, Ha, ls, rfl, hl, hz, hm, q⟩ := h
    rfl
  obtain ⟨l, Ha, ls, rfl, hl, hz, hm, q⟩ := h
  refine ⟨_, pss_cons (ps_for PassesOwn.never rfl (pi_list (pv 0)) (pg_name (i := 1) sc__law_spoiled.nd rfl (Or.inl rfl)) (pss_one (ps_expr (pe_bm PySem.F.plainAttrs_list PySem.F.slot_list_append PySem.F.type_list_append mt_append (pv 1) (pa_cons pe_int pa_nil)))))
    (pss_one (ps_expr (pe_bm PySem.F.plainAttrs_list PySem.F.slot_list_append PySem.F.type_list_append mt_append (pv 0) (pa_cons (pe_lst (pa_cons pe_int pa_nil)) pa_nil)))), ?_⟩
  obtain ⟨xs, el, lxs⟩ := hl.len
  refine ⟨_, rfl, l, rfl, ⟨_, SqL.of el⟩, for_list (xs := xs) (fun k σ H' => ∃ (o : Option V), σ = [some (.ref l), o] ∧ H' l = some (.lst xs) ∧ Only l H H' ∧ ∀ v ∈ xs, ∃ b ns, v = V.ref b ∧ b ≠ l ∧ H' b = some (.lst ns) ∧ ns.length ≤ 1000 + k) ⟨_, rfl, el, fun c _ o h => h, fun v hv => ?_⟩ (fun k σ H' _ h => by obtain ⟨o, _, h, _⟩ := h; exact SqL.of h) ?_ ?_⟩
  · obtain ⟨b, ns, e, hn, hb, _, n⟩ := hl.mem el hv
    exact ⟨b, _, e, n, hb, by rw [List.length_map]; have := hm ns hn; omega⟩
  · rintro k v σ H' hv ⟨o, rfl, h1, on, al⟩
    have hk : k < xs.length := (List.getElem?_eq_some_iff.mp hv).1
    have hvm := List.mem_of_getElem? hv
    obtain ⟨b, ns, rfl, n, hb, lb⟩ := al _ hvm
    refine ⟨_, rfl, .inl ⟨rfl, _, SqL.of hb⟩, b, _, _, rfl, rfl, hb, sz' (by omega), ?_⟩
    refine ⟨_, rfl, (upd_ne (Ne.symm n)).trans h1, fun c hc o' h => ?_, fun v hv => ?_⟩
    · have : c ≠ b := fun z => hc.2 _ el (by rw [z]; exact hvm)
      exact (upd_ne this).trans (on c hc o' h)
    · obtain ⟨b', ns', rfl, n', hb', lb'⟩ := al v hv
      by_cases z : b' = b
      · subst z
        exact ⟨b', _, rfl, n, upd_same, by rw [List.length_append]; simp; omega⟩
      · exact ⟨b', ns', rfl, n', (upd_ne z).trans hb', by omega⟩
  · rintro σ H' ⟨o, rfl, h1, on, al⟩
    refine ⟨_, rfl, .inl ⟨rfl, _, SqL.of h1⟩, (by show 1 ≤ sizeLine; decide), fun c hc => ⟨l, _, _, rfl, rfl, (upd_ne (ne_of_none h1 hc)).trans h1, sz' (by omega), ?_⟩⟩
    refine q _ fun e he o' h => ?_
    have h5 := on e he o' h
    rw [upd_ne he.1, upd_ne (ne_of_none h5 hc)]
    exact h5
theorem ok_law {ca : ClA} (CA : ClOk K mg ca) {f : Addr} {fd : FuncData} (F : Fun K "law" "law" s_law f fd) {f0 : Addr} {fd0 : FuncData} (d__law_cell_at : Def P w K mg base "_law_cell_at" ["_law_script", "_law_k"] 1 (sp__law_cell_at K ca) f0 fd0) {f1 : Addr} {fd1 : FuncData} (d__law_rooms : Def P w K mg base "_law_rooms" ["_law_script", "_law_size", "_law_turn"] 2 (sp__law_rooms K ca) f1 fd1) {f2 : Addr} {fd2 : FuncData} (d__law_joined : Def P w K mg base "_law_joined" ["_law_left", "_law_right", "_law_i"] 1 (sp__law_joined K ca) f2 fd2) {fd3 : FuncData} (d_Rooms____init__ : MDef P w K mg base ["self"] 5 (sp_Rooms____init__ K ca) ca.f_Rooms____init__ fd3) {f4 : Addr} {fd4 : FuncData} (d__law_copy : Def P w K mg base "_law_copy" ["_law_rooms_here"] 1 (sp__law_copy K ca) f4 fd4) {fd5 : FuncData} (d_Rooms__joined : MDef P w K mg base ["self", "left", "right"] 2 (sp_Rooms__joined K ca) ca.f_Rooms__joined fd5) {fd6 : FuncData} (d_Rooms__parted : MDef P w K mg base ["self", "thing"] 2 (sp_Rooms__parted K ca) ca.f_Rooms__parted fd6) {fd7 : FuncData} (d_Rooms__bare : MDef P w K mg base ["self"] 1 (sp_Rooms__bare K ca) ca.f_Rooms__bare fd7) {f8 : Addr} {fd8 : FuncData} (d__law_alike : Def P w K mg base "_law_alike" ["_law_found", "_law_due"] 6 (spA__law_alike K ca) f8 fd8) {f9 : Addr} {fd9 : FuncData} (d__law_spoiled : Def P w K mg base "_law_spoiled" ["_law_rooms_here"] 1 (sp__law_spoiled K ca) f9 fd9) (m_range : mg "range" = none) : FnOk P w K mg base CX0 7 f fd ["_law_script"] (sp_law K ca) := by
  refine F.ok sc_law (fun vs H Q E h => ?_) (fun cdv A outer s H vs Q E hr h => ?_)
  · obtain ⟨a, ns, rfl, hS, h63, q⟩ := h
    rfl
  obtain ⟨a, ns, rfl, hS, h63, q⟩ := h
  refine ⟨_, pss_cons (ps_set (i := 1) sc_law.nd rfl (Or.inl rfl) (pe_op op_mod (pcall d__law_cell_at hr (pa_cons (pv 0) (pa_cons pe_int pa_nil))) pe_int))
    (pss_cons (ps_set (i := 2) sc_law.nd rfl (Or.inl rfl) (pe_op op_mod (pe_op op_fdivL (pcall d__law_cell_at hr (pa_cons (pv 0) (pa_cons pe_int pa_nil))) pe_int) (pe_op op_add (pv 1) pe_int)))
    (pss_cut (ps_if (pt_cmpR op_eq (pe_op op_mod (pcall d__law_cell_at hr (pa_cons (pv 0) (pa_cons pe_int pa_nil))) pe_int) pe_int (nomark _)) (pss_one (ps_set (i := 2) sc_law.nd rfl (Or.inl rfl) (pe_op op_mul (pe_op op_mod (pcall d__law_cell_at hr (pa_cons (pv 0) (pa_cons pe_int pa_nil))) pe_int) (pv 1)))) pss_nil)
    (pss_cons (ps_set (i := 3) sc_law.nd rfl (Or.inl rfl) (pcall d__law_rooms hr (pa_cons (pv 0) (pa_cons (pv 2) (pa_cons pe_int pa_nil)))))
    (pss_cons (ps_set (i := 4) sc_law.nd rfl (Or.inl rfl) (pcall d__law_rooms hr (pa_cons (pv 0) (pa_cons (pe_op op_sub (pv 1) (pv 2)) (pa_cons pe_int pa_nil)))))
    (pss_cons (ps_set (i := 5) sc_law.nd rfl (Or.inl rfl) (pcall d__law_joined hr (pa_cons (pv 3) (pa_cons (pv 4) (pa_cons (pv 2) pa_nil)))))
    (pss_cons (ps_set (i := 6) sc_law.nd rfl (Or.inl rfl) (pmake0 CA.mk_Rooms CA.m_Rooms d_Rooms____init__ hr))
    (pss_cons (ps_set (i := 7) sc_law.nd rfl (Or.inl rfl) (pe_lst (pa_cons (pcall d__law_copy hr (pa_cons (pv 3) pa_nil)) (pa_cons (pcall d__law_copy hr (pa_cons (pv 4) pa_nil)) (pa_cons (pcall d__law_copy hr (pa_cons (pv 5) pa_nil)) pa_nil)))))
    (pss_cons (ps_for PassesOwn.never rfl (pi_range1 rfl m_range (pa_cons pe_int pa_nil)) (pg_name (i := 8) sc_law.nd rfl (Or.inl rfl)) (pss_cons (ps_set (i := 9) sc_law.nd rfl (Or.inl rfl) (pmeth (pv 6) CA.c_Rooms CA.mt_Rooms_joined d_Rooms__joined hr (pa_cons (pe_ix ix_list (pv 7) pe_int (fun _ _ => rfl)) (pa_cons (pe_ix ix_list (pv 7) pe_int (fun _ _ => rfl)) pa_nil))))
    (pss_cons (ps_set (i := 10) sc_law.nd rfl (Or.inl rfl) (pmeth (pv 6) CA.c_Rooms CA.mt_Rooms_parted d_Rooms__parted hr (pa_cons (pe_ix ix_list (pv 7) pe_int (fun _ _ => rfl)) pa_nil)))
    (pss_cons (ps_set (i := 11) sc_law.nd rfl (Or.inl rfl) (pmeth0 (pv 6) CA.c_Rooms CA.mt_Rooms_bare d_Rooms__bare hr))
    (pss_cons (ps_if (PW.pt (pw_or (pt_not (pt_val (pcall d__law_alike hr (pa_cons (pv 9) (pa_cons (pv 5) pa_nil))))) (pw_or (pt_not (pt_val (pcall d__law_alike hr (pa_cons (pv 10) (pa_cons (pe_tup (pa_cons (pv 3) (pa_cons (pv 4) pa_nil))) pa_nil))))) (pw_or1 (pt_not (pt_val (pcall d__law_alike hr (pa_cons (pv 11) (pa_cons (pe_lst pa_nil) pa_nil))))))))) (pss_one (ps_ret pe_bl)) pss_nil)
    (pss_cons (ps_expr (pcall d__law_spoiled hr (pa_cons (pv 9) pa_nil)))
    (pss_cons (ps_expr (pcall d__law_spoiled hr (pa_cons (pe_ix ix_tup (pv 10) pe_int (fun _ _ => rfl)) pa_nil)))
    (pss_cons (ps_expr (pcall d__law_spoiled hr (pa_cons (pe_ix ix_tup (pv 10) pe_int (fun _ _ => rfl)) pa_nil)))
    (pss_one (ps_expr (pcall d__law_spoiled hr (pa_cons (pv 11) pa_nil))))))))))))
    (pss_one (ps_ret (pe_cmpR (op_eqD (hu100 hr)) (pv 7) (pe_lst (pa_cons (pv 3) (pa_cons (pv 4) (pa_cons (pv 5) pa_nil)))) (nomark _)))))))))))), ?_⟩
  refine ⟨_, rfl, a, ns, 0, rfl, hS, by decide, _, _, rfl, rfl, pm (by decide), ?_⟩
  have m0 := Int.emod_nonneg (ns.getD (0 : Int).toNat 0) (show (40 : Int) ≠ 0 by decide)
  have m1 := Int.emod_lt_of_pos (ns.getD (0 : Int).toNat 0) (show (0 : Int) < 40 by decide)
  try dsimp only
  generalize ns.getD (0 : Int).toNat 0 % 40 = z at m0 m1 ⊢
  refine ⟨_, rfl, a, ns, 1, rfl, hS, by decide, _, _, rfl, rfl, ⟨by decide, by decide +kernel⟩, _, rfl, _, _, rfl, rfl, _, _, rfl, rfl, by omega, ?_⟩
  have i0 := Int.emod_nonneg (ns.getD (1 : Int).toNat 0 / 3) (show z + 1 ≠ 0 by omega)
  have i1 := Int.emod_lt_of_pos (ns.getD (1 : Int).toNat 0 / 3) (show 0 < z + 1 by omega)
  try dsimp only
  generalize ns.getD (1 : Int).toNat 0 / 3 % (z + 1) = w at i0 i1 ⊢
  refine ⟨fun σ H' => ∃ (o1 o2 o3 o4 o5 o6 o7 o8 o9 : Option V) (i : Nat), σ = [some (.ref a), some (.int z), some (.int i), o1, o2, o3, o4, o5, o6, o7, o8, o9] ∧ (i : Int) ≤ z ∧ H = H', ?_, ?_⟩
  · refine ⟨_, rfl, a, ns, 1, rfl, hS, by decide, _, _, rfl, rfl, pm (by decide), rfl, _, rfl, ite2 (fun _ => ?_) (fun _ => ?_)⟩
    · have b0 := Int.emod_nonneg (ns.getD (2 : Int).toNat 0) (show (2 : Int) ≠ 0 by decide)
      have b1 := Int.emod_lt_of_pos (ns.getD (2 : Int).toNat 0) (show (0 : Int) < 2 by decide)
      refine ⟨_, rfl, a, ns, 2, rfl, hS, by decide, _, _, rfl, rfl, pm (by decide), _, rfl, _, _, rfl, rfl, .inl ⟨by omega, by omega⟩, ?_⟩
      try dsimp only
      generalize ns.getD (2 : Int).toNat 0 % 2 = b at b0 b1 ⊢
      obtain ⟨i, ei, hi⟩ : ∃ i : Nat, b * z = (i : Int) ∧ (i : Int) ≤ z := by
        rcases (by omega : b = 0 ∨ b = 1) with rfl | rfl
        · exact ⟨0, by simp, by simpa using m0⟩
        · exact ⟨z.toNat, by omega, by omega⟩
      rw [ei]
      exact ⟨_, _, _, _, _, _, _, _, _, i, rfl, hi, rfl⟩
    · obtain ⟨i, rfl⟩ : ∃ i : Nat, w = (i : Int) := ⟨w.toNat, by omega⟩
      exact ⟨_, _, _, _, _, _, _, _, _, i, rfl, by omega, rfl⟩
  rintro σ H' ⟨o1, o2, o3, o4, o5, o6, o7, o8, o9, i, rfl, hi, rfl⟩

  obtain ⟨j, ej⟩ : ∃ j : Nat, z - (i : Int) = (j : Int) := ⟨(z - (i : Int)).toNat, by omega⟩
  refine ⟨_, rfl, _, rfl, a, ns, i, 2, rfl, hS, h63, by omega, by decide, by decide, fun l ls op1 H1 s1 f1 l1 rom1 => ?_⟩
  refine ⟨_, rfl, _, rfl, _, rfl, _, _, rfl, rfl, ?_⟩
  try dsimp only
  rw [ej]
  refine ⟨a, ns, j, 100, rfl, s1.seq hS, h63, by omega, by decide, by decide, fun r rs op2 H3 s3 f3 l3 rom2 => ?_⟩
  have rm := rom1.rms
  have rm2 := rom2.rms
  have ln := rm.lens
  have ln2 := rm2.lens
  have lj := joinR_len rm rm2
  have s13 := s1.trans s3
  refine ⟨_, rfl, _, rfl, _, rfl, l, r, _, _, i, j, ls, rs, rfl, l1.same s3, l3, rm, rm2, by omega, fun pd H5 s5 f5 l5 => ?_⟩
  intro x dx nx ndx nex
  refine ⟨x, dx, rfl, upd_same, fun fsx Hx1 ex fx => ⟨rfl, ?_⟩⟩
  have sx : Same H5 Hx1 := by rw [ex]; exact ((Same.new (Same.refl H5) ndx _).upd nx _).upd nx _
  have hx : Hx1 x = some (.ins ca.C_Rooms dx fsx) := by rw [ex]; exact upd_same

  have e1 := (l1.same s3).same (s5.trans sx)
  have e2 := l3.same (s5.trans sx)
  have e3 := l5.same sx
  have x1 : Hx1 l ≠ none := by obtain ⟨_, h, _⟩ := e1.len; rw [h]; simp
  have x2 : Hx1 r ≠ none := by obtain ⟨_, h, _⟩ := e2.len; rw [h]; simp
  have x3 : Hx1 pd ≠ none := by obtain ⟨_, h, _⟩ := e3.len; rw [h]; simp
  -- what is handed in
  refine ⟨_, rfl, l, _, ls, rfl, e1, by omega, fun c1 HA sA fc1 hc1 => ?_⟩
  refine ⟨_, rfl, r, _, rs, rfl, e2.same sA, by omega, fun c2 HB sB fc2 hc2 => ?_⟩
  refine ⟨_, rfl, pd, _, _, rfl, e3.same (sA.trans sB), by omega, fun c3 HC sC fc3 hc3 => ⟨(by show 3 ≤ sizeLine; decide), fun ph hph => ?_⟩⟩
  have kD := Same.new (Same.refl HC) hph (.lst [.ref c1, .ref c2, .ref c3])
  have hph' : upd HC ph (.lst [.ref c1, .ref c2, .ref c3]) ph = some (.lst [.ref c1, .ref c2, .ref c3]) := upd_same
  have sBC := sB.trans (sC.trans kD)
  have sCC := sC.trans kD
  have sAC := sA.trans sBC
  have n1 : c1 ≠ l := fun e => x1 (e ▸ fc1)
  have n2 : c2 ≠ r := fun e => x2 (e ▸ sA.free fc2)
  have n3 : c3 ≠ pd := fun e => x3 (e ▸ (sA.trans sB).free fc3)
  have hc1' := hc1.same sBC
  have hc2' := hc2.same sCC
  have hc3' := hc3.same kD
  have e1 := e1.same sAC
  have e2 := e2.same sAC
  have e3 := e3.same sAC
  have hx9 := sAC _ _ hx
  generalize upd HC ph (.lst [.ref c1, .ref c2, .ref c3]) = H9 at hph' hc1' hc2' hc3' e1 e2 e3 hx9 ⊢
  have at0 : atI [V.ref c1, .ref c2, .ref c3] 0 = some (.ref c1) := rfl
  have at1 : atI [V.ref c1, .ref c2, .ref c3] 1 = some (.ref c2) := rfl
  have at2 : atI [V.ref c1, .ref c2, .ref c3] 2 = some (.ref c3) := rfl
  have ax0 : ∀ (u v : V), atI [u, v] 0 = some u := fun _ _ => rfl
  have ax1 : ∀ (u v : V), atI [u, v] 1 = some v := fun _ _ => rfl
  have fj := fx.no "joined" (by decide) (by decide)
  have fpa := fx.no "parted" (by decide) (by decide)
  have fb := fx.no "bare" (by decide) (by decide)
  have fsz := fx.no "size_of" (by decide) (by decide)
  refine ⟨_, rfl, by decide, by decide, for_range (lo := 0) (n := 2) (fun k σ H' => ∃ (o1 o2 o3 o4 : Option V), σ = [some (.ref a), some (.int z), some (.int i), some (.ref l), some (.ref r), some (.ref pd), some (.ref x), some (.ref ph), o1, o2, o3, o4] ∧ Same H9 H') ⟨_, _, _, _, rfl, Same.refl H9⟩ ?_ ?_⟩
  · rintro k σ HA hk ⟨o1, o2, o3, o4, rfl, sA⟩
    refine ⟨_, rfl, x, dx, fsx, rfl, sA _ _ hx9, fj, _, rfl, ph, _, _, _, rfl, rfl, SqL.of (sA _ _ hph'), at0, _, rfl, ph, _, _, _, rfl, rfl, SqL.of (sA _ _ hph'), at1, x, dx, c1, c2, fsx, _, _, i, j, ls, rs, rfl, sA _ _ hx9, fsz, hc1'.same sA, hc2'.same sA, rm, rm2, by omega, fun pb HB sB fpb lb => ?_⟩
    have sAB := sA.trans sB
    refine ⟨_, rfl, x, dx, fsx, rfl, sAB _ _ hx9, fpa, _, rfl, ph, _, _, _, rfl, rfl, SqL.of (sAB _ _ hph'), at2, x, c3, _, i, j, ls, rs, rfl, hc3'.same sAB, rm, rm2, by omega, fun t0 p1 p2 HC sC fp1 fp2 ht0 l1 l2 ap => ?_⟩
    have sAC := sAB.trans sC
    refine ⟨_, rfl, x, dx, fsx, rfl, sAC _ _ hx9, fb, x, rfl, fun pz HD sD fpz hpz => ?_⟩
    have sAD := sAC.trans sD
    have sCD := sC.trans sD
    have sm1 : ∀ (n : Nat), n ≤ 1000 → n ≤ 1000000 := fun n h => by omega
    refine ⟨_, rfl, _, rfl, 3, by decide, _, _, roomsT (joinR i ls rs), rfl, (lb.same sCD).rep (by omega) (fun r hr => by have := lj.2 r hr; omega), (e3.same sAD).rep (by omega) (fun r hr => by have := lj.2 r hr; omega), by have := dep_rooms (joinR i ls rs); omega, _, rfl, iteF ?_⟩
    refine ⟨_, rfl, _, rfl, _, rfl, (by show 2 ≤ sizeLine; decide), fun tt htt => ?_⟩
    have sE := Same.new (Same.refl HD) htt (.tup [.ref l, .ref r])
    have sDE := sD.trans sE
    have sAE := sAD.trans sE
    have r1 : ∀ q ∈ ls, q.length ≤ 1000000 := fun q hq => by have := ln.2 q hq; omega
    have r2 : ∀ q ∈ rs, q.length ≤ 1000000 := fun q hq => by have := ln2.2 q hq; omega
    refine ⟨3, by decide, _, _, .tup [roomsT ls, roomsT rs], rfl, rep_two (sDE _ _ ht0) ((l1.same sDE).rep (by omega) r1) ((l2.same sDE).rep (by omega) r2), rep_two upd_same ((e1.same sAE).rep (by omega) r1) ((e2.same sAE).rep (by omega) r2), dep_rooms2 _ _, _, rfl, iteF ?_⟩
    refine ⟨_, rfl, Nat.zero_le _, fun pe hpe => ?_⟩
    have kF := Same.new (Same.refl _) hpe (.lst [])
    have sF := sE.trans kF
    refine ⟨3, by decide, _, _, roomsT [], rfl, (LLs.nil (H0 := HC) (sF _ _ hpz)).rep (by simp) (fun q hq => by cases hq), (LLs.nil (H0 := HC) upd_same).rep (by simp) (fun q hq => by cases hq), by have := dep_rooms []; omega, _, rfl, iteF ?_⟩
    -- the asker changes what was told
    have sAF := sAD.trans sF
    have kCF := sD.trans sF
    have kBF := sC.trans kCF
    have g0 := kCF _ _ ht0
    have gz := sF _ _ hpz
    generalize upd (upd HD tt (.tup [.ref l, .ref r])) pe (.lst []) = HG at sAF kCF kBF g0 gz ⊢
    have gb := lb.same kBF
    have g1 := l1.same kCF
    have g2 := l2.same kCF
    have gz0 : LLs HC HG pz [] := LLs.nil gz
    have ab1 : Apart HG pb p1 := .of lb kBF g1 fp1
    have ab2 : Apart HG pb p2 := .of lb kBF g2 fp2
    have abz : Apart HG pb pz := .of (lb.same sC) kCF gz0 fpz
    have a12 : Apart HG p1 p2 := ap.same l1 l2 kCF
    have a1z : Apart HG p1 pz := .of l1 kCF gz0 fpz
    have a2z : Apart HG p2 pz := .of l2 kCF gz0 fpz
    have m1 : ∀ q ∈ ls, q.length ≤ 1000 := fun q hq => by have := ln.2 q hq; omega
    have m2 : ∀ q ∈ rs, q.length ≤ 1000 := fun q hq => by have := ln2.2 q hq; omega
    refine ⟨_, rfl, pb, _, _, rfl, gb, by omega, fun q hq => by have := lj.2 q hq; omega, fun HJ oJ => ?_⟩
    have sJ := oJ.same (gb.since sA) (sA.free fpb) sAF
    have j1 := oJ.lls ab1 g1
    have j2 := oJ.lls ab2 g2
    have jz := oJ.lls abz gz0
    have j0 := oJ t0 (Off.tup gb g0) _ g0
    have aj12 := oJ.apart g1 ab1 g2 ab2 a12
    have aj1z := oJ.apart g1 ab1 gz0 abz a1z
    have aj2z := oJ.apart g2 ab2 gz0 abz a2z
    refine ⟨_, rfl, t0, _, _, _, rfl, rfl, SqT.of j0, ax0 _ _, p1, _, _, rfl, j1, by omega, m1, fun HK oK => ?_⟩
    have sK := oK.same (j1.since sAB) (sAB.free fp1) sJ
    have k2 := oK.lls aj12 j2
    have kz := oK.lls aj1z jz
    have k0 := oK t0 (Off.tup j1 j0) _ j0
    have ak2z := oK.apart j2 aj12 jz aj1z aj2z
    refine ⟨_, rfl, t0, _, _, _, rfl, rfl, SqT.of k0, ax1 _ _, p2, _, _, rfl, k2, by omega, m2, fun HL oL => ?_⟩
    have sL := oL.same (k2.since sAB) (sAB.free fp2) sK
    have lz := oL.lls ak2z kz
    refine ⟨_, rfl, pz, _, _, rfl, lz, Nat.zero_le _, fun q hq => (by cases hq), fun HM oM => ?_⟩
    exact ⟨_, _, _, _, rfl, oM.same (lz.since sAC) (sAC.free fpz) sL⟩
  · rintro σ HA ⟨o1, o2, o3, o4, rfl, sA⟩
    refine ⟨_, rfl, _, rfl, _, rfl, _, rfl, (by show 3 ≤ sizeLine; decide), fun pq hpq => ?_⟩
    have sZ := Same.new sA hpq (.lst [.ref l, .ref r, .ref pd])
    have nhq : ph ≠ pq := ne_of_none (sA _ _ hph') hpq
    refine ⟨3, true, by decide, EqD.lstT nhq (SqL.of (sZ _ _ hph')) (SqL.of upd_same) rfl ?_, ⟨ph, pq, rfl, rfl, nhq⟩, q _⟩
    intro m u v ex ey
    match m, ex, ey with
    | 0, ex, ey =>
      have w1 : V.ref c1 = u := by simpa using ex
      have w2 : V.ref l = v := by simpa using ey
      rw [← w1, ← w2]
      exact (hc1'.same sZ).eqD (e1.same sZ) n1
    | 1, ex, ey =>
      have w1 : V.ref c2 = u := by simpa using ex
      have w2 : V.ref r = v := by simpa using ey
      rw [← w1, ← w2]
      exact (hc2'.same sZ).eqD (e2.same sZ) n2
    | 2, ex, ey =>
      have w1 : V.ref c3 = u := by simpa using ex
      have w2 : V.ref pd = v := by simpa using ey
      rw [← w1, ← w2]
      exact (hc3'.same sZ).eqD (e3.same sZ) n3
    | m + 3, ex, ey => simp at ex
end
noncomputable def spL (K : PySem.W.Frag) : Sp := fun vs H Q _ => ∃ (a : Addr) (ns : List Int), vs = [.ref a] ∧ SqL K H a (ns.map V.int) ∧ ns.length ≤ 63 ∧ ∀ H', Q (.bl true) H'
theorem lenAll1 {P : List Value → Prop} (h : ∀ a0 : Value, P [a0]) : ∀ us : List Value, us.length = 1 → P us
  | [a0], _ => h a0
theorem lenAll2 {P : List Value → Prop} (h : ∀ a0 a1 : Value, P [a0, a1]) : ∀ us : List Value, us.length = 2 → P us
  | [a0, a1], _ => h a0 a1
theorem lenAll3 {P : List Value → Prop} (h : ∀ a0 a1 a2 : Value, P [a0, a1, a2]) : ∀ us : List Value, us.length = 3 → P us
  | [a0, a1, a2], _ => h a0 a1 a2
theorem all_mk {l : PySem.W.OpenLaw} {w : World} {K : PySem.W.Frag} {h : Heap} {mg : Str → Option Value} {fa : Addr} (X : K.In h) (G : h.Ns mainGlobals mg) (hfa : mg "law" = some (.ref fa)) {C_Rooms : Addr} {C_SplitFamily : Addr} {C_Family : Addr}
    {f1 : Addr} {od1 an1 : Option Addr} {sl1 : Array (Option Value)} {oc1 kV1 dc1 pm1 cd1 ct1 : Value}
    {f2 : Addr} {od2 an2 : Option Addr} {sl2 : Array (Option Value)} {oc2 kV2 dc2 pm2 cd2 ct2 : Value}
    {f3 : Addr} {od3 an3 : Option Addr} {sl3 : Array (Option Value)} {oc3 kV3 dc3 pm3 cd3 ct3 : Value}
    {f4 : Addr} {od4 an4 : Option Addr} {sl4 : Array (Option Value)} {oc4 kV4 dc4 pm4 cd4 ct4 : Value}
    {f5 : Addr} {od5 an5 : Option Addr} {sl5 : Array (Option Value)} {oc5 kV5 dc5 pm5 cd5 ct5 : Value}
    {f6 : Addr} {od6 an6 : Option Addr} {sl6 : Array (Option Value)} {oc6 kV6 dc6 pm6 cd6 ct6 : Value}
    {f7 : Addr} {od7 an7 : Option Addr} {sl7 : Array (Option Value)} {oc7 kV7 dc7 pm7 cd7 ct7 : Value}
    {f8 : Addr} {od8 an8 : Option Addr} {sl8 : Array (Option Value)} {oc8 kV8 dc8 pm8 cd8 ct8 : Value}
    {f9 : Addr} {od9 an9 : Option Addr} {sl9 : Array (Option Value)} {oc9 kV9 dc9 pm9 cd9 ct9 : Value}
    {f10 : Addr} {od10 an10 : Option Addr} {sl10 : Array (Option Value)} {oc10 kV10 dc10 pm10 cd10 ct10 : Value}
    {f11 : Addr} {od11 an11 : Option Addr} {sl11 : Array (Option Value)} {oc11 kV11 dc11 pm11 cd11 ct11 : Value}
    {f12 : Addr} {od12 an12 : Option Addr} {sl12 : Array (Option Value)} {oc12 kV12 dc12 pm12 cd12 ct12 : Value}
    {f13 : Addr} {od13 an13 : Option Addr} {sl13 : Array (Option Value)} {oc13 kV13 dc13 pm13 cd13 ct13 : Value}
    {f14 : Addr} {od14 an14 : Option Addr} {sl14 : Array (Option Value)} {oc14 kV14 dc14 pm14 cd14 ct14 : Value}
    {f15 : Addr} {od15 an15 : Option Addr} {sl15 : Array (Option Value)} {oc15 kV15 dc15 pm15 cd15 ct15 : Value}
    {f16 : Addr} {od16 an16 : Option Addr} {sl16 : Array (Option Value)} {oc16 kV16 dc16 pm16 cd16 ct16 : Value}
    (nc_Rooms : PySem.W.nsIn K mainGlobals "Rooms" = some (some (.ref C_Rooms)))
    (nc_SplitFamily : PySem.W.nsIn K mainGlobals "SplitFamily" = some (some (.ref C_SplitFamily)))
    (nc_Family : PySem.W.nsIn K mainGlobals "Family" = some (some (.ref C_Family)))
    (a_Rooms_joined : PySem.W.findIn K (.ref C_Rooms) "joined" = some (some (.ref f11)))
    (a_Rooms_parted : PySem.W.findIn K (.ref C_Rooms) "parted" = some (some (.ref f12)))
    (a_Rooms_bare : PySem.W.findIn K (.ref C_Rooms) "bare" = some (some (.ref f13)))
    (a_Rooms_size_of : PySem.W.findIn K (.ref C_Rooms) "size_of" = some (some (.ref f9)))
    (ai_Rooms : PySem.W.findIn K (.ref C_Rooms) "__init__" = some (some (.ref f7)))
    (ch_SplitFamily___init___Rooms : PySem.W.findCls K (.ref C_SplitFamily) (.type "type") "__init__" = some (.val (.ref f6)))
    (cg_SplitFamily___init___Rooms : PySem.W.specialIn K (.ref C_SplitFamily) "__getattribute__" = some (some (.builtin "type.__getattribute__")))
    (cr_SplitFamily___init___Rooms : PySem.W.readsIn K C_SplitFamily (.type "type") = true)
    (ch_Family___init___Rooms : PySem.W.findCls K (.ref C_Family) (.type "type") "__init__" = some (.val (.ref f5)))
    (cg_Family___init___Rooms : PySem.W.specialIn K (.ref C_Family) "__getattribute__" = some (some (.builtin "type.__getattribute__")))
    (cr_Family___init___Rooms : PySem.W.readsIn K C_Family (.type "type") = true)
    (a1 : PySem.W.nsIn K mainGlobals "_law_cell_at" = some (some (.ref f1)))
    (l1 : K.lookup f1 = some ⟨oc1, od1, .func (PySem.W.fnOf "_law_cell_at" "_law_cell_at" (defArgs s__law_cell_at) (defBody s__law_cell_at) (defScope s__law_cell_at) .none kV1 dc1 pm1 an1 cd1 ct1), sl1⟩)
    (c1 : PySem.W.codeIn K cd1 "_law_cell_at" = true)
    (k1 : PySem.W.keepIn K (.ref f1) = true)
    (a2 : PySem.W.nsIn K mainGlobals "_law_draws" = some (some (.ref f2)))
    (l2 : K.lookup f2 = some ⟨oc2, od2, .func (PySem.W.fnOf "_law_draws" "_law_draws" (defArgs s__law_draws) (defBody s__law_draws) (defScope s__law_draws) .none kV2 dc2 pm2 an2 cd2 ct2), sl2⟩)
    (c2 : PySem.W.codeIn K cd2 "_law_draws" = true)
    (k2 : PySem.W.keepIn K (.ref f2) = true)
    (a3 : PySem.W.nsIn K mainGlobals "_law_rooms" = some (some (.ref f3)))
    (l3 : K.lookup f3 = some ⟨oc3, od3, .func (PySem.W.fnOf "_law_rooms" "_law_rooms" (defArgs s__law_rooms) (defBody s__law_rooms) (defScope s__law_rooms) .none kV3 dc3 pm3 an3 cd3 ct3), sl3⟩)
    (c3 : PySem.W.codeIn K cd3 "_law_rooms" = true)
    (k3 : PySem.W.keepIn K (.ref f3) = true)
    (a4 : PySem.W.nsIn K mainGlobals "_law_joined" = some (some (.ref f4)))
    (l4 : K.lookup f4 = some ⟨oc4, od4, .func (PySem.W.fnOf "_law_joined" "_law_joined" (defArgs s__law_joined) (defBody s__law_joined) (defScope s__law_joined) .none kV4 dc4 pm4 an4 cd4 ct4), sl4⟩)
    (c4 : PySem.W.codeIn K cd4 "_law_joined" = true)
    (k4 : PySem.W.keepIn K (.ref f4) = true)
    (l5 : K.lookup f5 = some ⟨oc5, od5, .func (PySem.W.fnOf "__init__" "Family.__init__" (defArgs s_Rooms__Family___init__) (defBody s_Rooms__Family___init__) (defScope s_Rooms__Family___init__) .none kV5 dc5 pm5 an5 cd5 ct5), sl5⟩)
    (c5 : PySem.W.codeIn K cd5 "Family.__init__" = true)
    (k5 : PySem.W.keepIn K (.ref f5) = true)
    (i5 : PySem.W.isFn K (.ref f5) = true)
    (l6 : K.lookup f6 = some ⟨oc6, od6, .func (PySem.W.fnOf "__init__" "SplitFamily.__init__" (defArgs s_Rooms__SplitFamily___init__) (defBody s_Rooms__SplitFamily___init__) (defScope s_Rooms__SplitFamily___init__) .none kV6 dc6 pm6 an6 cd6 ct6), sl6⟩)
    (c6 : PySem.W.codeIn K cd6 "SplitFamily.__init__" = true)
    (k6 : PySem.W.keepIn K (.ref f6) = true)
    (i6 : PySem.W.isFn K (.ref f6) = true)
    (l7 : K.lookup f7 = some ⟨oc7, od7, .func (PySem.W.fnOf "__init__" "Rooms.__init__" (defArgs s_Rooms____init__) (defBody s_Rooms____init__) (defScope s_Rooms____init__) .none kV7 dc7 pm7 an7 cd7 ct7), sl7⟩)
    (c7 : PySem.W.codeIn K cd7 "Rooms.__init__" = true)
    (k7 : PySem.W.keepIn K (.ref f7) = true)
    (i7 : PySem.W.isFn K (.ref f7) = true)
    (a8 : PySem.W.nsIn K mainGlobals "_law_copy" = some (some (.ref f8)))
    (l8 : K.lookup f8 = some ⟨oc8, od8, .func (PySem.W.fnOf "_law_copy" "_law_copy" (defArgs s__law_copy) (defBody s__law_copy) (defScope s__law_copy) .none kV8 dc8 pm8 an8 cd8 ct8), sl8⟩)
    (c8 : PySem.W.codeIn K cd8 "_law_copy" = true)
    (k8 : PySem.W.keepIn K (.ref f8) = true)
    (l9 : K.lookup f9 = some ⟨oc9, od9, .func (PySem.W.fnOf "size_of" "Rooms.size_of" (defArgs s_Rooms__size_of) (defBody s_Rooms__size_of) (defScope s_Rooms__size_of) .none kV9 dc9 pm9 an9 cd9 ct9), sl9⟩)
    (c9 : PySem.W.codeIn K cd9 "Rooms.size_of" = true)
    (k9 : PySem.W.keepIn K (.ref f9) = true)
    (i9 : PySem.W.isFn K (.ref f9) = true)
    (a10 : PySem.W.nsIn K mainGlobals "raised_by" = some (some (.ref f10)))
    (l10 : K.lookup f10 = some ⟨oc10, od10, .func (PySem.W.fnOf "raised_by" "raised_by" (defArgs s_raised_by) (defBody s_raised_by) (defScope s_raised_by) .none kV10 dc10 pm10 an10 cd10 ct10), sl10⟩)
    (c10 : PySem.W.codeIn K cd10 "raised_by" = true)
    (k10 : PySem.W.keepIn K (.ref f10) = true)
    (l11 : K.lookup f11 = some ⟨oc11, od11, .func (PySem.W.fnOf "joined" "Rooms.joined" (defArgs s_Rooms__joined) (defBody s_Rooms__joined) (defScope s_Rooms__joined) .none kV11 dc11 pm11 an11 cd11 ct11), sl11⟩)
    (c11 : PySem.W.codeIn K cd11 "Rooms.joined" = true)
    (k11 : PySem.W.keepIn K (.ref f11) = true)
    (i11 : PySem.W.isFn K (.ref f11) = true)
    (l12 : K.lookup f12 = some ⟨oc12, od12, .func (PySem.W.fnOf "parted" "Rooms.parted" (defArgs s_Rooms__parted) (defBody s_Rooms__parted) (defScope s_Rooms__parted) .none kV12 dc12 pm12 an12 cd12 ct12), sl12⟩)
    (c12 : PySem.W.codeIn K cd12 "Rooms.parted" = true)
    (k12 : PySem.W.keepIn K (.ref f12) = true)
    (i12 : PySem.W.isFn K (.ref f12) = true)
    (l13 : K.lookup f13 = some ⟨oc13, od13, .func (PySem.W.fnOf "bare" "Rooms.bare" (defArgs s_Rooms__bare) (defBody s_Rooms__bare) (defScope s_Rooms__bare) .none kV13 dc13 pm13 an13 cd13 ct13), sl13⟩)
    (c13 : PySem.W.codeIn K cd13 "Rooms.bare" = true)
    (k13 : PySem.W.keepIn K (.ref f13) = true)
    (i13 : PySem.W.isFn K (.ref f13) = true)
    (a14 : PySem.W.nsIn K mainGlobals "_law_alike" = some (some (.ref f14)))
    (l14 : K.lookup f14 = some ⟨oc14, od14, .func (PySem.W.fnOf "_law_alike" "_law_alike" (defArgs s__law_alike) (defBody s__law_alike) (defScope s__law_alike) .none kV14 dc14 pm14 an14 cd14 ct14), sl14⟩)
    (c14 : PySem.W.codeIn K cd14 "_law_alike" = true)
    (k14 : PySem.W.keepIn K (.ref f14) = true)
    (a15 : PySem.W.nsIn K mainGlobals "_law_spoiled" = some (some (.ref f15)))
    (l15 : K.lookup f15 = some ⟨oc15, od15, .func (PySem.W.fnOf "_law_spoiled" "_law_spoiled" (defArgs s__law_spoiled) (defBody s__law_spoiled) (defScope s__law_spoiled) .none kV15 dc15 pm15 an15 cd15 ct15), sl15⟩)
    (c15 : PySem.W.codeIn K cd15 "_law_spoiled" = true)
    (k15 : PySem.W.keepIn K (.ref f15) = true)
    (a16 : PySem.W.nsIn K mainGlobals "law" = some (some (.ref f16)))
    (l16 : K.lookup f16 = some ⟨oc16, od16, .func (PySem.W.fnOf "law" "law" (defArgs s_law) (defBody s_law) (defScope s_law) .none kV16 dc16 pm16 an16 cd16 ct16), sl16⟩)
    (c16 : PySem.W.codeIn K cd16 "law" = true)
    (k16 : PySem.W.keepIn K (.ref f16) = true)
    (pg_Rooms : PySem.W.plainGet K C_Rooms Str.empty = true)
    (hd_Rooms : PySem.W.hasDictIn K C_Rooms = true)
    (po_Rooms : PySem.W.plainOver K C_Rooms = true)
    (sa_Rooms : PySem.W.findIn K (.ref C_Rooms) "__setattr__" = some (some (.builtin "object.__setattr__")))
    (mk_Rooms : PySem.W.makesIn K C_Rooms = true)
    (kc_Rooms : PySem.W.keepIn K (.ref C_Rooms) = true)
    (na_Rooms_word : PySem.W.findIn K (.ref C_Rooms) "word" = some none)
    (na_Rooms_least : PySem.W.findIn K (.ref C_Rooms) "least" = some none)
    (z_len : PySem.W.nsIn K mainGlobals "len" = some none)
    (z_range : PySem.W.nsIn K mainGlobals "range" = some none)
    (z_min : PySem.W.nsIn K mainGlobals "min" = some none)
    (z_list : PySem.W.nsIn K mainGlobals "list" = some none)
    (z_sum : PySem.W.nsIn K mainGlobals "sum" = some none)
    (z_sorted : PySem.W.nsIn K mainGlobals "sorted" = some none)
    (z_isinstance : PySem.W.nsIn K mainGlobals "isinstance" = some none)
    (z_int : PySem.W.nsIn K mainGlobals "int" = some none)
    (z_bool : PySem.W.nsIn K mainGlobals "bool" = some none)
    (z_tuple : PySem.W.nsIn K mainGlobals "tuple" = some none) :
    ∃ fd : FuncData, (∀ (s : Shared) (v : Value), BindsTo s fd ⟨[v], []⟩ [("_law_script", v)]) ∧ ∀ base : Heap, K.In base → base.Ns mainGlobals mg → FnOk l.prog w K mg base CX0 7 fa fd ["_law_script"] (spL K) := by
  have e := hfa.symm.trans (PySem.W.mg_of X G a16)
  cases e
  have CA : ClOk K mg ⟨C_Rooms, C_SplitFamily, C_Family, f5, f6, f7, f9, f11, f12, f13⟩ := ⟨PySem.W.mg_of X G nc_Rooms, PySem.W.mg_of X G nc_SplitFamily, PySem.W.mg_of X G nc_Family, ⟨pg_Rooms, hd_Rooms, po_Rooms, sa_Rooms⟩, ⟨a_Rooms_joined, i11, k11⟩, ⟨a_Rooms_parted, i12, k12⟩, ⟨a_Rooms_bare, i13, k13⟩, ⟨a_Rooms_size_of, i9, k9⟩, ⟨mk_Rooms, ai_Rooms, i7, kc_Rooms⟩, ⟨cg_SplitFamily___init___Rooms, cr_SplitFamily___init___Rooms, ch_SplitFamily___init___Rooms, k6⟩, ⟨cg_Family___init___Rooms, cr_Family___init___Rooms, ch_Family___init___Rooms, k5⟩, na_Rooms_word, na_Rooms_least⟩
  have F1 := fun_mk (st := s__law_cell_at) l1 c1 k1
  have b1 := F1.binds (ps := ["_law_script", "_law_k"]) fun _ _ _ _ _ _ => lenAll2 (fun _ _ => rfl)
  have F2 := fun_mk (st := s__law_draws) l2 c2 k2
  have b2 := F2.binds (ps := ["_law_script", "_law_turn", "_law_many"]) fun _ _ _ _ _ _ => lenAll3 (fun _ _ _ => rfl)
  have F3 := fun_mk (st := s__law_rooms) l3 c3 k3
  have b3 := F3.binds (ps := ["_law_script", "_law_size", "_law_turn"]) fun _ _ _ _ _ _ => lenAll3 (fun _ _ _ => rfl)
  have F4 := fun_mk (st := s__law_joined) l4 c4 k4
  have b4 := F4.binds (ps := ["_law_left", "_law_right", "_law_i"]) fun _ _ _ _ _ _ => lenAll3 (fun _ _ _ => rfl)
  have F5 := fun_mk (st := s_Rooms__Family___init__) l5 c5 k5
  have b5 := F5.binds (ps := ["self", "word", "least"]) fun _ _ _ _ _ _ => lenAll3 (fun _ _ _ => rfl)
  have F6 := fun_mk (st := s_Rooms__SplitFamily___init__) l6 c6 k6
  have b6 := F6.binds (ps := ["self", "word"]) fun _ _ _ _ _ _ => lenAll2 (fun _ _ => rfl)
  have F7 := fun_mk (st := s_Rooms____init__) l7 c7 k7
  have b7 := F7.binds (ps := ["self"]) fun _ _ _ _ _ _ => lenAll1 (fun _ => rfl)
  have F8 := fun_mk (st := s__law_copy) l8 c8 k8
  have b8 := F8.binds (ps := ["_law_rooms_here"]) fun _ _ _ _ _ _ => lenAll1 (fun _ => rfl)
  have F9 := fun_mk (st := s_Rooms__size_of) l9 c9 k9
  have b9 := F9.binds (ps := ["self", "thing"]) fun _ _ _ _ _ _ => lenAll2 (fun _ _ => rfl)
  have F10 := fun_mk (st := s_raised_by) l10 c10 k10
  have b10 := F10.binds (ps := ["numbers", "step"]) fun _ _ _ _ _ _ => lenAll2 (fun _ _ => rfl)
  have F11 := fun_mk (st := s_Rooms__joined) l11 c11 k11
  have b11 := F11.binds (ps := ["self", "left", "right"]) fun _ _ _ _ _ _ => lenAll3 (fun _ _ _ => rfl)
  have F12 := fun_mk (st := s_Rooms__parted) l12 c12 k12
  have b12 := F12.binds (ps := ["self", "thing"]) fun _ _ _ _ _ _ => lenAll2 (fun _ _ => rfl)
  have F13 := fun_mk (st := s_Rooms__bare) l13 c13 k13
  have b13 := F13.binds (ps := ["self"]) fun _ _ _ _ _ _ => lenAll1 (fun _ => rfl)
  have F14 := fun_mk (st := s__law_alike) l14 c14 k14
  have b14 := F14.binds (ps := ["_law_found", "_law_due"]) fun _ _ _ _ _ _ => lenAll2 (fun _ _ => rfl)
  have F15 := fun_mk (st := s__law_spoiled) l15 c15 k15
  have b15 := F15.binds (ps := ["_law_rooms_here"]) fun _ _ _ _ _ _ => lenAll1 (fun _ => rfl)
  have F16 := fun_mk (st := s_law) l16 c16 k16
  have m_len := PySem.W.mg_none_of X G z_len
  have m_range := PySem.W.mg_none_of X G z_range
  have m_min := PySem.W.mg_none_of X G z_min
  have m_list := PySem.W.mg_none_of X G z_list
  have m_sum := PySem.W.mg_none_of X G z_sum
  have m_sorted := PySem.W.mg_none_of X G z_sorted
  have m_isinstance := PySem.W.mg_none_of X G z_isinstance
  have m_int := PySem.W.mg_none_of X G z_int
  have m_bool := PySem.W.mg_none_of X G z_bool
  have m_tuple := PySem.W.mg_none_of X G z_tuple
  refine ⟨PySem.W.fnOf "law" "law" (defArgs s_law) (defBody s_law) (defScope s_law) .none kV16 dc16 pm16 an16 cd16 ct16, fun s v => .of_eq rfl, fun base _ _ => ?_⟩
  have d__law_cell_at : Def l.prog w K mg base "_law_cell_at" ["_law_script", "_law_k"] 1 (sp__law_cell_at K ⟨C_Rooms, C_SplitFamily, C_Family, f5, f6, f7, f9, f11, f12, f13⟩) f1 _ := ⟨(ok__law_cell_at (P := l.prog) (w := w) (base := base) CA F1 m_len).up, b1, k1, PySem.W.mg_of X G a1⟩
  have d__law_draws : Def l.prog w K mg base "_law_draws" ["_law_script", "_law_turn", "_law_many"] 1 (sp__law_draws K ⟨C_Rooms, C_SplitFamily, C_Family, f5, f6, f7, f9, f11, f12, f13⟩) f2 _ := ⟨(ok__law_draws (P := l.prog) (w := w) (base := base) CA F2 m_range m_len).up, b2, k2, PySem.W.mg_of X G a2⟩
  have d__law_rooms : Def l.prog w K mg base "_law_rooms" ["_law_script", "_law_size", "_law_turn"] 2 (sp__law_rooms K ⟨C_Rooms, C_SplitFamily, C_Family, f5, f6, f7, f9, f11, f12, f13⟩) f3 _ := ⟨(ok__law_rooms (P := l.prog) (w := w) (base := base) CA F3 d__law_draws m_range m_min m_len).up, b3, k3, PySem.W.mg_of X G a3⟩
  have d__law_joined : Def l.prog w K mg base "_law_joined" ["_law_left", "_law_right", "_law_i"] 1 (sp__law_joined K ⟨C_Rooms, C_SplitFamily, C_Family, f5, f6, f7, f9, f11, f12, f13⟩) f4 _ := ⟨(ok__law_joined (P := l.prog) (w := w) (base := base) CA F4).up, b4, k4, PySem.W.mg_of X G a4⟩
  have d_Rooms__Family___init__ : MDef l.prog w K mg base ["self", "word", "least"] 1 (sp_Rooms__Family___init__ K ⟨C_Rooms, C_SplitFamily, C_Family, f5, f6, f7, f9, f11, f12, f13⟩) f5 _ := ⟨(ok_Rooms__Family___init__ (P := l.prog) (w := w) (base := base) CA F5).up, b5⟩
  have d_Rooms__SplitFamily___init__ : MDef l.prog w K mg base ["self", "word"] 3 (sp_Rooms__SplitFamily___init__ K ⟨C_Rooms, C_SplitFamily, C_Family, f5, f6, f7, f9, f11, f12, f13⟩) f6 _ := ⟨(ok_Rooms__SplitFamily___init__ (P := l.prog) (w := w) (base := base) CA F6 d_Rooms__Family___init__).up, b6⟩
  have d_Rooms____init__ : MDef l.prog w K mg base ["self"] 5 (sp_Rooms____init__ K ⟨C_Rooms, C_SplitFamily, C_Family, f5, f6, f7, f9, f11, f12, f13⟩) f7 _ := ⟨(ok_Rooms____init__ (P := l.prog) (w := w) (base := base) CA F7 d_Rooms__SplitFamily___init__).up, b7⟩
  have d__law_copy : Def l.prog w K mg base "_law_copy" ["_law_rooms_here"] 1 (sp__law_copy K ⟨C_Rooms, C_SplitFamily, C_Family, f5, f6, f7, f9, f11, f12, f13⟩) f8 _ := ⟨(ok__law_copy (P := l.prog) (w := w) (base := base) CA F8 m_list).up, b8, k8, PySem.W.mg_of X G a8⟩
  have d_Rooms__size_of : MDef l.prog w K mg base ["self", "thing"] 1 (sp_Rooms__size_of K ⟨C_Rooms, C_SplitFamily, C_Family, f5, f6, f7, f9, f11, f12, f13⟩) f9 _ := ⟨(ok_Rooms__size_of (P := l.prog) (w := w) (base := base) CA F9 m_sum m_len).up, b9⟩
  have d_raised_by : Def l.prog w K mg base "raised_by" ["numbers", "step"] 1 (sp_raised_by K ⟨C_Rooms, C_SplitFamily, C_Family, f5, f6, f7, f9, f11, f12, f13⟩) f10 _ := ⟨(ok_raised_by (P := l.prog) (w := w) (base := base) CA F10).up, b10, k10, PySem.W.mg_of X G a10⟩
  have d_Rooms__joined : MDef l.prog w K mg base ["self", "left", "right"] 2 (sp_Rooms__joined K ⟨C_Rooms, C_SplitFamily, C_Family, f5, f6, f7, f9, f11, f12, f13⟩) f11 _ := ⟨(ok_Rooms__joined (P := l.prog) (w := w) (base := base) CA F11 d_Rooms__size_of d_raised_by).up, b11⟩
  have d_Rooms__parted : MDef l.prog w K mg base ["self", "thing"] 2 (sp_Rooms__parted K ⟨C_Rooms, C_SplitFamily, C_Family, f5, f6, f7, f9, f11, f12, f13⟩) f12 _ := ⟨(ok_Rooms__parted (P := l.prog) (w := w) (base := base) CA F12 d_raised_by m_sorted).up, b12⟩
  have d_Rooms__bare : MDef l.prog w K mg base ["self"] 1 (sp_Rooms__bare K ⟨C_Rooms, C_SplitFamily, C_Family, f5, f6, f7, f9, f11, f12, f13⟩) f13 _ := ⟨(ok_Rooms__bare (P := l.prog) (w := w) (base := base) CA F13).up, b13⟩
  have r__law_alike : ∀ n, FnOk l.prog w K mg base (CX1 l.prog w) (0 + n + 1) f14 _ ["_law_found", "_law_due"] (sp__law_alike K ⟨C_Rooms, C_SplitFamily, C_Family, f5, f6, f7, f9, f11, f12, f13⟩ n) := rec_ok fun n q => ok__law_alike (P := l.prog) (w := w) (base := base) CA F14 m_isinstance m_int m_bool m_list m_tuple m_len m_range n ⟨below_ok q, b14, k14, PySem.W.mg_of X G a14⟩
  have d__law_alike : Def l.prog w K mg base "_law_alike" ["_law_found", "_law_due"] 6 (spA__law_alike K ⟨C_Rooms, C_SplitFamily, C_Family, f5, f6, f7, f9, f11, f12, f13⟩) f14 _ := ⟨((below_ok (L := 0) (N := 5) fun m _ => r__law_alike m).mono (by decide)), b14, k14, PySem.W.mg_of X G a14⟩
  have d__law_spoiled : Def l.prog w K mg base "_law_spoiled" ["_law_rooms_here"] 1 (sp__law_spoiled K ⟨C_Rooms, C_SplitFamily, C_Family, f5, f6, f7, f9, f11, f12, f13⟩) f15 _ := ⟨(ok__law_spoiled (P := l.prog) (w := w) (base := base) CA F15).up, b15, k15, PySem.W.mg_of X G a15⟩
  exact ok_law (P := l.prog) (w := w) (base := base) CA F16 d__law_cell_at d__law_rooms d__law_joined d_Rooms____init__ d__law_copy d_Rooms__joined d_Rooms__parted d_Rooms__bare d__law_alike d__law_spoiled m_range

theorem walk {l : PySem.W.OpenLaw} {q : Program} {loose : List Str} {XP : (Str → Option Value) → Heap → Prop} {YP : World → Heap → Prop} {d : DefRec} {K : Params → PySem.W.Frag} (hn : l.most = some 63) (hdf : d.params.defaults = [])
    (hY : ∀ (w : World) (h : Heap), YP w h → (K w.params).In h)
    (F : ∀ (w : World) (mg : Str → Option Value) (fa : Addr) (h : Heap), (K w.params).In h → h.Ns mainGlobals mg → mg d.name = some (.ref fa) →
      ∃ fd : FuncData, (∀ (s : Shared) (u : Value), BindsTo s fd ⟨[u], []⟩ [("_law_script", u)]) ∧ ∀ base : Heap, (K w.params).In base → base.Ns mainGlobals mg → FnOk l.prog w (K w.params) mg base CX0 7 fa fd ["_law_script"] (spL (K w.params))) :
    PySem.W.WalkO q loose XP YP l.row.toRowW d [] (fun f vs => PySem.call f vs) :=
  L2.walk_of (n := 63) (k := 7) (x := "_law_script") (CX := fun _ => CX0) (sp := fun w => spL (K w.params)) hn (by decide) hdf ⟨rfl, by decide, by decide⟩ hY F (fun _ _ a ns hl _ hS => ⟨a, ns, rfl, hS, hl, fun _ => rfl⟩) fun _ _ _ _ _ z => z
end Ck
open PySem PySem.W PyProof.Rows
set_option maxRecDepth 100000 in
set_option maxHeartbeats 0 in
theorem PySem.Challenge.cw_countkin_k17_rooms_parted_holds : PySem.Challenge.rw_countkin_k17_rooms_parted.Holds := by
  w_on; o_law; k_head; (case hw => w_witness2)
  k_fill
  refine Ck.walk (l := PySem.Challenge.rw_countkin_k17_rooms_parted) rfl rfl (fun w h Y => PySem.W.kIn_of Y) ?F
  case F =>
    intro w mg fa h KX G hmg
    refine' Ck.all_mk KX G hmg ?nc_Rooms ?nc_SplitFamily ?nc_Family ?a_Rooms_joined ?a_Rooms_parted ?a_Rooms_bare ?a_Rooms_size_of ?ai_Rooms ?ch_SplitFamily___init___Rooms ?cg_SplitFamily___init___Rooms ?cr_SplitFamily___init___Rooms ?ch_Family___init___Rooms ?cg_Family___init___Rooms ?cr_Family___init___Rooms ?a1 ?l1 ?c1 ?k1 ?a2 ?l2 ?c2 ?k2 ?a3 ?l3 ?c3 ?k3 ?a4 ?l4 ?c4 ?k4 ?l5 ?c5 ?k5 ?i5 ?l6 ?c6 ?k6 ?i6 ?l7 ?c7 ?k7 ?i7 ?a8 ?l8 ?c8 ?k8 ?l9 ?c9 ?k9 ?i9 ?a10 ?l10 ?c10 ?k10 ?l11 ?c11 ?k11 ?i11 ?l12 ?c12 ?k12 ?i12 ?l13 ?c13 ?k13 ?i13 ?a14 ?l14 ?c14 ?k14 ?a15 ?l15 ?c15 ?k15 ?a16 ?l16 ?c16 ?k16 ?pg_Rooms ?hd_Rooms ?po_Rooms ?sa_Rooms ?mk_Rooms ?kc_Rooms ?na_Rooms_word ?na_Rooms_least ?z_len ?z_range ?z_min ?z_list ?z_sum ?z_sorted ?z_isinstance ?z_int ?z_bool ?z_tuple
    (case nc_Rooms => k_is)
    (case nc_SplitFamily => k_is)
    (case nc_Family => k_is)
    (case a_Rooms_joined => k_is)
    (case a_Rooms_parted => k_is)
    (case a_Rooms_bare => k_is)
    (case a_Rooms_size_of => k_is)
    (case ai_Rooms => k_is)
    (case ch_SplitFamily___init___Rooms => k_is)
    (case cg_SplitFamily___init___Rooms => k_is)
    (case cr_SplitFamily___init___Rooms => k_is)
    (case ch_Family___init___Rooms => k_is)
    (case cg_Family___init___Rooms => k_is)
    (case cr_Family___init___Rooms => k_is)
    (case a1 => k_is)
    (case l1 => k_is)
    (case c1 => k_is)
    (case k1 => k_is)
    (case a2 => k_is)
    (case l2 => k_is)
    (case c2 => k_is)
    (case k2 => k_is)
    (case a3 => k_is)
    (case l3 => k_is)
    (case c3 => k_is)
    (case k3 => k_is)
    (case a4 => k_is)
    (case l4 => k_is)
    (case c4 => k_is)
    (case k4 => k_is)
    (case l5 => k_is)
    (case c5 => k_is)
    (case k5 => k_is)
    (case i5 => k_is)
    (case l6 => k_is)
    (case c6 => k_is)
    (case k6 => k_is)
    (case i6 => k_is)
    (case l7 => k_is)
    (case c7 => k_is)
    (case k7 => k_is)
    (case i7 => k_is)
    (case a8 => k_is)
    (case l8 => k_is)
    (case c8 => k_is)
    (case k8 => k_is)
    (case l9 => k_is)
    (case c9 => k_is)
    (case k9 => k_is)
    (case i9 => k_is)
    (case a10 => k_is)
    (case l10 => k_is)
    (case c10 => k_is)
    (case k10 => k_is)
    (case l11 => k_is)
    (case c11 => k_is)
    (case k11 => k_is)
    (case i11 => k_is)
    (case l12 => k_is)
    (case c12 => k_is)
    (case k12 => k_is)
    (case i12 => k_is)
    (case l13 => k_is)
    (case c13 => k_is)
    (case k13 => k_is)
    (case i13 => k_is)
    (case a14 => k_is)
    (case l14 => k_is)
    (case c14 => k_is)
    (case k14 => k_is)
    (case a15 => k_is)
    (case l15 => k_is)
    (case c15 => k_is)
    (case k15 => k_is)
    (case a16 => k_is)
    (case l16 => k_is)
    (case c16 => k_is)
    (case k16 => k_is)
    (case pg_Rooms => k_is)
    (case hd_Rooms => k_is)
    (case po_Rooms => k_is)
    (case sa_Rooms => k_is)
    (case mk_Rooms => k_is)
    (case kc_Rooms => k_is)
    (case na_Rooms_word => k_is)
    (case na_Rooms_least => k_is)
    (case z_len => k_is)
    (case z_range => k_is)
    (case z_min => k_is)
    (case z_list => k_is)
    (case z_sum => k_is)
    (case z_sorted => k_is)
    (case z_isinstance => k_is)
    (case z_int => k_is)
    (case z_bool => k_is)
    (case z_tuple => k_is)

