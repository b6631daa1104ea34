import PyProof.Rows.All
import Wide.All
import OpenK.AllK
import Wide.FinOn
import Lean
import PyProof.EqAt
import PyProof.EqKinds
import PyProof.TupleCall
import KE.KMinBuiltin
import KE.KRevSl
import KE.KSortTup
import KE.KTryMore
import Open.Pieces
import OpenK.KQuick
import OpenK.KWalk
import PyProof.ExcAttrAll.ValueError
import PyProof.FitsBits
import PyProof.NeKinds
import PySem.Challenge.RW_countkin_k23_four_families_refuse
set_option Elab.async false
set_option linter.all false
set_option maxRecDepth 100000
/-! THE HAND LAYER, for ints, bools, texts, own classes, LISTS and tuples (index, slices, in, append, pop ..), calls, loops. Paste it whole ahead of your own text; what your proof does not reach may be deleted. -/
namespace L2
open PySem PySem.Spec PyProof.Rows

/-- a key: an int or a str -/
noncomputable abbrev Key := Sum Int Str
noncomputable def keyIs : Key → Value → Bool
  | .inl k, v => Value.isInt k v
  | .inr x, v => Value.isStrOf x v
noncomputable def keyH (w : World) : Key → Int
  | .inl k => hashInt k
  | .inr x => hashStr w x
theorem keyIs_shape : ∀ {k : Key} {v : Value}, keyIs k v = true → (∃ i t, k = Sum.inl i ∧ v = Value.int i t) ∨ (∃ x t, k = Sum.inr x ∧ v = Value.str x t)
  | .inl i, v, h => by
    obtain ⟨t, e⟩ := Value.isInt_shape (k := i) (v := v) h
    exact .inl ⟨i, t, rfl, e⟩
  | .inr x, v, h => by
    obtain ⟨t, e⟩ := Value.isStrOf_shape (x := x) (v := v) h
    exact .inr ⟨x, t, rfl, e⟩
theorem key_ll (a b : Int) : decide ((Sum.inl a : Key) = Sum.inl b) = (a == b) := by
  by_cases e : a = b
  · subst e; simp
  · have h : ¬ (Sum.inl a : Key) = Sum.inl b := fun q => e (Sum.inl.inj q)
    rw [decide_eq_false h]
    exact (beq_eq_false_iff_ne.mpr e).symm
theorem key_rr (a b : Str) : decide ((Sum.inr a : Key) = Sum.inr b) = decide (a = b) := by
  by_cases e : a = b
  · subst e; simp
  · have h : ¬ (Sum.inr a : Key) = Sum.inr b := fun q => e (Sum.inr.inj q)
    rw [decide_eq_false h, decide_eq_false e]
theorem key_lr (a : Int) (b : Str) : decide ((Sum.inl a : Key) = Sum.inr b) = false := decide_eq_false (fun q => nomatch q)
theorem key_rl (a : Str) (b : Int) : decide ((Sum.inr a : Key) = Sum.inl b) = false := decide_eq_false (fun q => nomatch q)

noncomputable def mixKind (prog : Program) (w : World) : PySem.KeyKind prog w Key where
  is := keyIs
  hash := keyH w
  inj := fun v a b ha hb => by
    rcases keyIs_shape ha with ⟨i, t, rfl, rfl⟩ | ⟨x, t, rfl, rfl⟩
    · rcases keyIs_shape hb with ⟨j, u, rfl, e⟩ | ⟨y, u, rfl, e⟩
      · injection e with e1 _; rw [e1]
      · exact nomatch e
    · rcases keyIs_shape hb with ⟨j, u, rfl, e⟩ | ⟨y, u, rfl, e⟩
      · exact nomatch e
      · injection e with e1 _; rw [e1]
  byValue := fun k v h => by
    rcases keyIs_shape h with ⟨i, t, rfl, rfl⟩ | ⟨x, t, rfl, rfl⟩ <;> rfl
  pyHash := fun hv h => by
    rcases keyIs_shape hv with ⟨i, t, rfl, rfl⟩ | ⟨x, t, rfl, rfl⟩
    · exact wpAny_pyHash_int h
    · exact wpAny_pyHash_str h
  eqBool := fun hu hv h => by
    rcases keyIs_shape hu with ⟨i, t, rfl, rfl⟩ | ⟨x, t, rfl, rfl⟩
    · rcases keyIs_shape hv with ⟨j, u, rfl, rfl⟩ | ⟨y, u, rfl, rfl⟩
      · rw [key_ll] at h; exact wpAny_eqBool_int h
      · rw [key_lr] at h; exact SeqAt.EqAt.int_str i t y u _ _ _ _ h
    · rcases keyIs_shape hv with ⟨j, u, rfl, rfl⟩ | ⟨y, u, rfl, rfl⟩
      · rw [key_rl] at h; exact SeqAt.EqAt.str_int x t j u _ _ _ _ h
      · rw [key_rr] at h; exact wpAny_eqBool_str h
  «strs» := fun k x t v h => by
    rcases keyIs_shape h with ⟨i, u, rfl, e⟩ | ⟨y, u, rfl, e⟩
    · exact nomatch e
    · injection e with e1 _
      subst e1
      cases v <;> rfl

end L2

namespace L2
open PySem PySem.Spec PyProof.Rows

/-- a value, without the heap -/
inductive V where
  | non | bl (b : Bool) | int (i : Int) | str (x : Str) | byt (b : Array UInt8) | flt (b : UInt64) | ref (a : Addr) | ty (n : String)
  deriving DecidableEq

noncomputable def RelV : V → Value → Prop
  | .non, u => u = Value.none
  | .bl b, u => u = Value.bool b
  | .int i, u => ∃ t, u = Value.int i t
  | .str x, u => ∃ t, u = Value.str x t
  | .byt b, u => ∃ t, u = Value.bytes b t
  | .flt b, u => ∃ t, u = Value.float b t
  | .ref a, u => u = Value.ref a
  | .ty n, u => u = Value.type n

noncomputable abbrev Vals : List V → List Value → Prop := Paired RelV
theorem Vals.length {xs : List V} {us : List Value} (r : Vals xs us) : xs.length = us.length := Paired.length r
theorem Vals.get : ∀ {xs : List V} {us : List Value} {i : Nat} {x : V}, Vals xs us → xs[i]? = some x → ∃ u, us[i]? = some u ∧ RelV x u
  | _, _, _, _, .nil, e => by simp at e
  | _, _, 0, _, .cons r _, e => by simp at e; subst e; exact ⟨_, rfl, r⟩
  | _, _, i + 1, x, .cons _ t, e => by
    obtain ⟨u, h1, h2⟩ := Vals.get (i := i) (x := x) t (by simpa using e)
    exact ⟨u, by simpa using h1, h2⟩
theorem Vals.append : ∀ {xs ys : List V} {us ws : List Value}, Vals xs us → Vals ys ws → Vals (xs ++ ys) (us ++ ws)
  | _, _, _, _, .nil, s => s
  | _, _, _, _, .cons r t, s => .cons r (Vals.append t s)
noncomputable def RelO : Option V → Option Value → Prop
  | some v, some u => RelV v u
  | none, none => True
  | _, _ => False
noncomputable def KV {κ : Type} : List (κ × V) → List (κ × Value) → Prop := Paired fun (p : κ × V) (q : κ × Value) => p.1 = q.1 ∧ RelV p.2 q.2

/-- a key of a dict (00_mix): an int or a text -/
noncomputable def kV : Key → V
  | .inl i => .int i
  | .inr x => .str x

/-- what stands at a tracked address -/
inductive HO where
  /-- a list -/
  | lst (xs : List V)
  /-- a tuple (never changes) -/
  | tup (xs : List V)
  /-- a dict whose keys are ints and texts; one whose keys are tuples of ints and texts (the empty one is both) -/
  | dK (kvs : List (Key × V)) | dT (kvs : List (List Key × V))
  /-- a set of ints: its members, its size -/
  | set (S : Int → Bool) (n : Nat)
  /-- an instance of the class at C, its dict at dx, its attributes -/
  | ins (C dx : Addr) (fs : List (Str × V))
  /-- the dict of the instance at x -/
  | own (x : Addr)
  /-- the dict of an exception -/
  | xd (fs : List (Str × V))
  /-- a bound method, f of x -/
  | met (f x : Addr)
  /-- a range object lo, lo + 1, .. below hi -/
  | rng (lo hi : Int)
  /-- a thing that is known to the object (the script; a dict while a loop walks it): read, never written while it is so -/
  | frz (o : Obj) (u : HO)
  /-- a code object's table -/
  | tbl (ps : Array Value)
  /-- any other thing, by what is true of its one object (a def of one's own: SetO a S n := HO.ext fun h => ..) -/
  | ext (φ : Heap → Prop)

noncomputable abbrev Hp := Addr → Option HO
noncomputable def upd (H : Hp) (a : Addr) (o : HO) : Hp := fun b => if b = a then some o else H b
theorem upd_same {H : Hp} {a : Addr} {o : HO} : upd H a o a = some o := by unfold upd; rw [if_pos rfl]
theorem upd_ne {H : Hp} {a b : Addr} {o : HO} (h : b ≠ a) : upd H a o b = H b := by unfold upd; rw [if_neg h]
theorem upd_upd {H : Hp} {a : Addr} {o u : HO} : upd (upd H a o) a u = upd H a u := by
  funext b; unfold upd; split <;> rfl
/-- two objects of different content stand apart -/
theorem ne_of {H : Hp} {a b : Addr} {o u : HO} (h : H a = some o) (h' : H b = some u) (d : o ≠ u) : a ≠ b := by
  intro e; subst e; rw [h] at h'; exact d (Option.some.inj h')
theorem ne_of_none {H : Hp} {a b : Addr} {o : HO} (h : H a = some o) (h' : H b = none) : a ≠ b := by
  intro e; subst e; rw [h] at h'; cases h'

section
variable (P : Program) (w : World)
noncomputable def ObjOk (H : Hp) (h : Heap) (a : Addr) : HO → Prop
  | .lst xs => xs.length ≤ sizeLine ∧ ∃ (its : List Value) (n : Nat), Vals xs its ∧ h.get? a = some { cls := .type "list", data := .seq its.toArray n }
  | .tup xs => xs.length ≤ sizeLine ∧ ∃ its : List Value, Vals xs its ∧ IsTup h a its.toArray
  | .dK kvs => kvs.length ≤ sizeLine ∧ (a == sysModules) = false ∧ ∃ vs, KV kvs vs ∧ h.DictOf (mixKind P w) a vs
  | .dT kvs => kvs.length ≤ sizeLine ∧ (a == sysModules) = false ∧ ∃ xs : List (List Key × Addr × Value),
      Paired (fun (p : List Key × V) (q : List Key × Addr × Value) => p.1 = q.1 ∧ H q.2.1 = some (.tup (p.1.map kV)) ∧ RelV p.2 q.2.2) kvs xs ∧
      ∃ o es ep, h.get? a = some o ∧ o.ExactDict ∧ o.data = .dict es ep ∧ es.toList = xs.map (entryOfKey (tupleKind (mixKind P w))) ∧ (xs.map (·.1)).Nodup
  | .set S n => h.SetOf (intKind P w) a S n
  | .ins C dx fs => H dx = some (.own a) ∧ fs.length ≤ 1000 ∧ dx ≠ a ∧ h.get? a = some (PySem.W.instObj C dx) ∧
      ∃ mA, h.Ns1 dx mA ∧ (∀ f, RelO (fs.lookup f) (mA f)) ∧ PySem.Within mA (fs.map (·.1))
  | .own _ => ∃ o, h.get? a = some o
  | .xd fs => ∃ mA, h.Ns1 a mA ∧ ∀ f, RelO (fs.lookup f) (mA f)
  | .rng lo hi => ∃ t u v, h.get? a = some { cls := .type "range", data := .fields #[.int lo t, .int hi u, .int 1 v] }
  | .frz o u => h.get? a = some o ∧ ObjOk H h a u
  | .tbl ps => h.get? a = some { cls := .none, data := .fields ps }
  | .met f x => h.get? a = some (PySem.W.methodObj (.ref f) (.ref x))
  | .ext φ => φ h ∧ (∃ o, h.get? a = some o) ∧ ∀ h1 h2 : Heap, φ h1 → (∀ o, h1.get? a = some o → h2.get? a = some o) → φ h2
/-- the abstract heap is held -/
noncomputable def HOk (H : Hp) (h : Heap) : Prop := ∀ a o, H a = some o → ObjOk P w H h a o
end

section
variable {P : Program} {w : World} {H H' : Hp} {h h' : Heap} {a : Addr} {o : HO}
theorem ObjOk.lt (x : ObjOk P w H h a o) : a < h.objs.size := by
  cases o with
  | lst xs => obtain ⟨_, _, _, _, e⟩ := x; exact Heap.lt_size e
  | tup xs => obtain ⟨_, _, _, p⟩ := x; exact p.lt
  | dK kvs => obtain ⟨_, _, _, _, o, _, _, e, _⟩ := x; exact Heap.lt_size e
  | dT kvs => obtain ⟨_, _, _, _, o, _, _, e, _⟩ := x; exact Heap.lt_size e
  | set S n => obtain ⟨o, _, _, _, e, _⟩ := x; exact Heap.lt_size e
  | ins C dx fs => obtain ⟨_, _, _, e, _⟩ := x; exact Heap.lt_size e
  | own y => obtain ⟨_, e⟩ := x; exact Heap.lt_size e
  | xd fs => obtain ⟨_, ⟨_, _, _, e, _⟩, _⟩ := x; exact Heap.lt_size e
  | rng lo hi => obtain ⟨_, _, _, e⟩ := x; exact Heap.lt_size e
  | frz ob u => obtain ⟨e, _⟩ := x; exact Heap.lt_size e
  | tbl ps => exact Heap.lt_size (show h.get? a = some _ from x)
  | met f y => exact Heap.lt_size (show h.get? a = some _ from x)
  | ext φ => obtain ⟨_, ⟨_, e⟩, _⟩ := x; exact Heap.lt_size e
theorem Paired.mapP {α β : Type} {F G : α → β → Prop} : ∀ {l₁ : List α} {l₂ : List β}, Paired F l₁ l₂ → (∀ a b, F a b → G a b) → Paired G l₁ l₂
  | _, _, .nil, _ => .nil
  | _, _, .cons r t, f => .cons (f _ _ r) (Paired.mapP t f)
/-- what an object's description leans on: its own object, its own dict, the tuples -/
theorem ObjOk.stay (x : ObjOk P w H h a o) (k : ∀ b u, (b = a ∨ H b = some (.own a)) → h.get? b = some u → h'.get? b = some u)
    (ho : ∀ b, H b = some (.own a) → H' b = some (.own a)) (ht : ∀ b xs, H b = some (.tup xs) → H' b = some (.tup xs)) : ObjOk P w H' h' a o := by
  induction o with
  | lst xs => obtain ⟨z, its, n, r, e⟩ := x; exact ⟨z, its, n, r, k _ _ (.inl rfl) e⟩
  | tup xs => obtain ⟨z, its, r, ob, e, c⟩ := x; exact ⟨z, its, r, ob, k _ _ (.inl rfl) e, c⟩
  | dK kvs => obtain ⟨z, y, vs, r, ob, es, ep, e, c⟩ := x; exact ⟨z, y, vs, r, ob, es, ep, k _ _ (.inl rfl) e, c⟩
  | dT kvs =>
    obtain ⟨z, y, xs, r, ob, es, ep, e, c⟩ := x
    exact ⟨z, y, xs, Paired.mapP r fun p q z => ⟨z.1, ht _ _ z.2.1, z.2.2⟩, ob, es, ep, k _ _ (.inl rfl) e, c⟩
  | set S n => obtain ⟨ob, es, ep, t, e, c⟩ := x; exact ⟨ob, es, ep, t, k _ _ (.inl rfl) e, c⟩
  | ins C dx fs =>
    obtain ⟨d, z, ne, e, mA, ⟨od, es, ep, e2, c⟩, r⟩ := x
    exact ⟨ho _ d, z, ne, k _ _ (.inl rfl) e, mA, ⟨od, es, ep, k _ _ (.inr d) e2, c⟩, r⟩
  | own y => obtain ⟨ob, e⟩ := x; exact ⟨ob, k _ _ (.inl rfl) e⟩
  | xd fs => obtain ⟨mA, ⟨od, es, ep, e, c⟩, r⟩ := x; exact ⟨mA, ⟨od, es, ep, k _ _ (.inl rfl) e, c⟩, r⟩
  | rng lo hi => obtain ⟨t, u, v, e⟩ := x; exact ⟨t, u, v, k _ _ (.inl rfl) e⟩
  | frz ob u ih => obtain ⟨e, q⟩ := x; exact ⟨k _ _ (.inl rfl) e, ih q⟩
  | tbl ps =>
    have e : h.get? a = some { cls := .none, data := .fields ps } := x
    show h'.get? a = some { cls := .none, data := .fields ps }
    exact k a _ (.inl rfl) e
  | met f y =>
    have e : h.get? a = some (PySem.W.methodObj (.ref f) (.ref y)) := x
    show h'.get? a = some (PySem.W.methodObj (.ref f) (.ref y))
    exact k a _ (.inl rfl) e
  | ext φ => obtain ⟨p, ⟨o, e⟩, st⟩ := x; exact ⟨st _ _ p fun o q => k _ _ (.inl rfl) q, ⟨o, k _ _ (.inl rfl) e⟩, st⟩
theorem HOk.lt (x : HOk P w H h) (e : H a = some o) : a < h.objs.size := (x a o e).lt
theorem HOk.fresh (x : HOk P w H h) (e : h.objs.size ≤ a) : H a = none := by
  cases q : H a with
  | none => rfl
  | some u => exact absurd (Nat.lt_of_lt_of_le (x.lt q) e) (Nat.lt_irrefl _)
/-- every object of the heap is kept -/
theorem HOk.kept (x : HOk P w H h) (k : ∀ b u, h.get? b = some u → h'.get? b = some u) : HOk P w H h' := fun a o e =>
  (x a o e).stay (fun b u _ q => k b u q) (fun _ q => q) fun _ _ q => q
/-- a new object is laid and tracked -/
theorem HOk.laid (x : HOk P w H h) (k : ∀ b u, h.get? b = some u → h'.get? b = some u) (hp : h.objs.size ≤ a) (new : ObjOk P w (upd H a o) h' a o) : HOk P w (upd H a o) h' := fun b u e => by
  have hn := x.fresh hp
  by_cases hb : b = a
  · subst hb; rw [upd_same] at e; cases e; exact new
  · rw [upd_ne hb] at e
    exact (x b u e).stay (fun c v _ q => k c v q) (fun c q => by rw [upd_ne (ne_of_none q hn)]; exact q) fun c xs q => by rw [upd_ne (ne_of_none q hn)]; exact q
end

/-- what may be read as u: it is u, or a known u -/
noncomputable def Rd (H : Hp) (a : Addr) (u : HO) : Prop := H a = some u ∨ ∃ o, H a = some (.frz o u)
theorem Rd.ok {P : Program} {w : World} {H : Hp} {h : Heap} {a : Addr} {u : HO} (r : Rd H a u) (x : HOk P w H h) : ObjOk P w H h a u := by
  rcases r with r | ⟨o, r⟩
  · exact x a u r
  · obtain ⟨_, q⟩ := x a _ r
    exact q
/-- what may be written -/
noncomputable def Mut : Option HO → Prop
  | some (.lst _) => True
  | some (.dK _) => True
  | some (.dT _) => True
  | some (.set _ _) => True
  | some (.ins _ _ _) => True
  | some (.ext _) => True
  | _ => False
section
variable {P : Program} {w : World} {H : Hp} {h h' : Heap} {x e : Addr} {o' : HO}
/-- the object at e is changed: x itself, or the dict of the instance x -/
theorem HOk.write (ok : HOk P w H h) (mu : Mut (H x)) (he : e = x ∨ H e = some (.own x)) (k : ∀ b u, b ≠ e → h.get? b = some u → h'.get? b = some u) (heo : ∃ u, h'.get? e = some u)
    (new : ObjOk P w (upd H x o') h' x o') : HOk P w (upd H x o') h' := fun b u q => by
  have nown : ∀ c y, H c = some (.own y) → c ≠ x := fun c y r z => by subst z; rw [r] at mu; exact mu
  have ntup : ∀ c xs, H c = some (.tup xs) → c ≠ x := fun c xs r z => by subst z; rw [r] at mu; exact mu
  by_cases hb : b = x
  · subst hb; rw [upd_same] at q; cases q; exact new
  · rw [upd_ne hb] at q
    by_cases hbe : b = e
    · have q' : H b = some (.own x) := by
        rcases he with z | z
        · exact absurd (hbe.trans z) hb
        · rw [hbe]; exact z
      rw [q] at q'; cases q'
      obtain ⟨v, hv⟩ := heo
      exact ⟨v, by rw [hbe]; exact hv⟩
    · refine (ok b u q).stay (fun c v hc r => k c v ?_ r) (fun c r => by rw [upd_ne (nown c b r)]; exact r) fun c xs r => by rw [upd_ne (ntup c xs r)]; exact r
      rcases hc with rfl | hc
      · exact hbe
      · rintro rfl
        rcases he with z | z
        · exact nown c b hc z
        · rw [hc] at z; cases z; exact hb rfl
end

/-! ### kept unless tracked; of the frames at fs (the callers') the slots may change (an exception that passes writes there); of the records at ex (iterators) nothing is said -/
structure Un (fs ex : List Addr) (H H' : Hp) (h h' : Heap) : Prop where
  keep : ∀ b o, h.get? b = some o → H b = none → b ∉ fs → b ∉ ex → h'.get? b = some o
  slot : ∀ b o, h.get? b = some o → H b = none → b ∈ fs → b ∉ ex → ∃ sl, h'.get? b = some { o with slots := sl }
  free : ∀ b o, h.get? b = some o → H b = none → b ∉ ex → H' b = none
  there : ∀ b o, h.get? b = some o → b ∉ ex → ∃ o', h'.get? b = some o'
  tups : ∀ b xs, H b = some (.tup xs) → H' b = some (.tup xs)
  frzs : ∀ b o u, H b = some (.frz o u) → H' b = some (.frz o u)
  tbls : ∀ b ps, H b = some (.tbl ps) → ∃ more, H' b = some (.tbl (ps ++ more))
section
variable {fs fs' ex ex' : List Addr} {H H1 H2 : Hp} {h h1 h2 h' : Heap} {a x e : Addr} {o : HO}
theorem Un.any (u : Un fs ex H H1 h h1) {b : Addr} {ob : Obj} (q : h.get? b = some ob) (n : H b = none) (hx : b ∉ ex) : ∃ sl, h1.get? b = some { ob with slots := sl } := by
  by_cases hb : b ∈ fs
  · exact u.slot b ob q n hb hx
  · exact ⟨ob.slots, u.keep b ob q n hb hx⟩
theorem Un.kept (k : ∀ b u, h.get? b = some u → h'.get? b = some u) : Un fs ex H H h h' :=
  ⟨fun b ob q _ _ _ => k b ob q, fun b ob q _ _ _ => ⟨ob.slots, k b ob q⟩, fun _ _ _ n _ => n, fun b ob q _ => ⟨ob, k b ob q⟩, fun _ _ q => q, fun _ _ _ q => q, fun _ ps q => ⟨#[], by rw [q]; simp⟩⟩
theorem Un.refl : Un fs ex H H h h := Un.kept fun _ _ q => q
theorem Un.laid (k : ∀ b u, h.get? b = some u → h'.get? b = some u) (hp : h.objs.size ≤ a) (hn : H a = none) : Un fs ex H (upd H a o) h h' where
  keep := fun b u q _ _ _ => k b u q
  slot := fun b u q _ _ _ => ⟨u.slots, k b u q⟩
  free := fun b u q n _ => by rw [upd_ne (Nat.ne_of_lt (Nat.lt_of_lt_of_le (Heap.lt_size q) hp))]; exact n
  there := fun b u q _ => ⟨u, k b u q⟩
  tups := fun b xs q => by rw [upd_ne (ne_of_none q hn)]; exact q
  frzs := fun b u xs q => by rw [upd_ne (ne_of_none q hn)]; exact q
  tbls := fun b ps q => ⟨#[], by rw [upd_ne (ne_of_none q hn), q]; simp⟩
theorem Un.write (mu : Mut (H x)) (he : e = x ∨ H e = some (.own x)) (k : ∀ b u, b ≠ e → h.get? b = some u → h'.get? b = some u) (heo : ∃ u, h'.get? e = some u) : Un fs ex H (upd H x o) h h' := by
  have hx : ∀ b, H b = none → b ≠ x := fun b n z => by subst z; rw [n] at mu; exact mu
  have hb : ∀ b, H b = none → b ≠ e := fun b n z => by
    subst z
    rcases he with r | r
    · exact hx b n r
    · rw [n] at r; cases r
  have hm : ∀ b u, H b = some u → ¬ Mut (some u) → b ≠ x := fun b u q nm z => by subst z; rw [q] at mu; exact nm mu
  refine ⟨fun b u q n _ _ => k b u (hb b n) q, fun b u q n _ _ => ⟨u.slots, k b u (hb b n) q⟩, fun b u q n _ => by rw [upd_ne (hx b n)]; exact n, fun b u q _ => ?_,
    fun b xs q => by rw [upd_ne (hm b _ q fun z => z)]; exact q, fun b u xs q => by rw [upd_ne (hm b _ q fun z => z)]; exact q, fun b ps q => ⟨#[], by rw [upd_ne (hm b _ q fun z => z), q]; simp⟩⟩
  by_cases hbe : b = e
  · subst hbe; exact heo
  · exact ⟨u, k b u hbe q⟩
end

/-! ### the heap without what is tracked -/
noncomputable def trk (h : Heap) (H : Hp) : List Addr := (List.range h.objs.size).filter fun a => (H a).isSome
noncomputable def hidT (h : Heap) (H : Hp) : Heap := PySem.W.hideAll h (trk h H)
theorem hidT_size (h : Heap) (H : Hp) : (hidT h H).objs.size = h.objs.size := PySem.W.hideAll_size _ _
theorem hidT_get {h : Heap} {H : Hp} {b : Addr} {o : Obj} (e : h.get? b = some o) (n : H b = none) : (hidT h H).get? b = some o :=
  PySem.W.hideAll_get _ e fun hm => by
    have q : (H b).isSome = true := (List.mem_filter.mp hm).2
    rw [n] at q; simp at q
theorem of_hidT {h : Heap} {H : Hp} {b : Addr} {o : Obj} (e : (hidT h H).get? b = some o) : h.get? b = some o ∧ H b = none := by
  have e' : h.get? b = some o := PySem.W.of_hideAll (trk h H) e
  refine ⟨e', ?_⟩
  cases q : H b with
  | none => rfl
  | some x =>
    have hm : b ∈ trk h H := List.mem_filter.mpr ⟨List.mem_range.mpr (Heap.lt_size e'), by simp [q]⟩
    have z : (hidT h H).get? b = none := PySem.W.hideAll_none (trk h H) hm
    rw [z] at e; cases e

/-! ### OpenK's ledger, filled with every new object but one -/
noncomputable def allNews (g h : Heap) (L : Addr) : List (Addr × Obj) := (List.range h.objs.size).filterMap fun a => if a = L ∨ (g.get? a).isSome = true then none else (h.get? a).map fun o => (a, o)
noncomputable def rest (g h : Heap) (L d : Addr) : List (Addr × Obj) := (allNews g h L).filter fun p => decide (p.1 ≠ d)
end L2

namespace L2
open PySem PySem.Spec PyProof.Rows

/-- the module's facts, over the base: the heap at the law's entry without what is tracked there -/
structure Mod (K : PySem.W.Frag) (mg : Str → Option Value) (base : Heap) : Prop where
  kin : K.In base
  glob : base.Ns mainGlobals mg
  blt : ∃ mb, base.Ns builtinsNs mb ∧ ∀ x : Str, x ≠ "__name__" → mb x = bootBuiltins x
  nolimit : base.NoLimit

/-- the context: a def's body (or a comprehension's block) running. base: fixed through the whole law; s₀, H₀: the entry; outer: the frames whose slots others may change (a def's callers); stack: all frames that run;
   ex: iterators that were made ahead of the entry and are walked here (a comprehension's); fn: the names whose cells were made at the entry (a def: all; a comprehension's block: its own); calm: not within an except suite; pn: pins that every state bears; xe: what is wanted of an exception that leaves the code -/
structure Cx where
  prog : Program
  w : World
  K : PySem.W.Frag
  mg : Str → Option Value
  base : Heap
  A : Around
  N : List Str
  s₀ : Shared
  H₀ : Hp
  env : Env
  outer : List Env
  stack : List Env
  ex : List Addr
  fn : Str → Bool
  calm : Bool
  pn : List (Addr × Obj)
  xe : Value → Shared → Prop
/-- the callers' frames -/
noncomputable def frs (l : List Env) : List Addr := l.filterMap (·.frame)
noncomputable abbrev Cx.fs (X : Cx) : List Addr := frs X.outer

noncomputable def Vis (sc : Scope) (x : Str) : Prop := sc.names.lookup x = some .local ∨ sc.names.lookup x = some .cell ∨ sc.names.lookup x = some .free
noncomputable def Loc (sc : Scope) (x : Str) : Prop := sc.names.lookup x = some .local ∨ sc.names.lookup x = some .cell
noncomputable def Look (env : Env) (h : Heap) (m : Str → Option Value) (x : Str) (u : Value) : Prop :=
  (env.kindOf x = some .local ∧ m x = some u) ∨ ((env.kindOf x = some .cell ∨ env.kindOf x = some .free) ∧ ∃ c, env.cells.lookup x = some c ∧ h.IsCell c (some u))

structure Cx.Ok (X : Cx) : Prop where
  mod : Mod X.K X.mg X.base
  kind : X.env.scope.kind = .function
  glob : X.env.globals = mainGlobals
  blt : X.env.builtins = builtinsNs
  above : X.s₀.heap.objs.size ≤ X.env.locals
  inj : ∀ x y c, X.env.cells.lookup x = some c → X.env.cells.lookup y = some c → x = y
  has : ∀ x, (X.env.kindOf x = some .cell ∨ X.env.kindOf x = some .free) → ∃ c, X.env.cells.lookup x = some c
  cab : ∀ x c, X.fn x = true → X.env.cells.lookup x = some c → X.s₀.heap.objs.size ≤ c
  hd : X.calm = true → X.A.handled = none
  frames : X.A.frames = some X.stack
  stk : X.stack = X.outer ∨ (X.stack = X.env :: X.outer ∧ X.env.frame = some X.env.locals)
  exf : ∀ b ∈ X.ex, b ≠ X.env.locals ∧ ∀ x c, X.env.cells.lookup x = some c → c ≠ b
  bs : ∀ b o, X.base.get? b = some o → X.s₀.heap.get? b = some o ∧ X.H₀ b = none
  bsz : X.base.objs.size ≤ X.s₀.heap.objs.size
  noex : ∀ b o, X.base.get? b = some o → b ∉ X.ex
  exfs : ∀ b ∈ X.ex, b ∉ X.fs
  funs : X.s₀.heap.FunFrames X.base X.outer
  frf : ∀ b ∈ X.fs, X.H₀ b = none

structure Inv (X : Cx) (pins : List (Addr × Obj)) (σ : List (Option V)) (H : Hp) (s : Shared) : Prop where
  ok : X.Ok
  os : s.os = X.s₀.os
  bare : AllBare s.gens
  base : Un X.fs X.ex X.H₀ H X.s₀.heap s.heap
  loc : ∃ m, s.heap.Ns X.env.locals m ∧ ∀ (i : Nat) (x : Str) (v : V), X.N[i]? = some x → σ[i]? = some (some v) → Vis X.env.scope x → ∃ u, RelV v u ∧ Look X.env s.heap m x u
  cell : ∀ x c, X.env.cells.lookup x = some c → ∃ v, s.heap.IsCell c v
  free : H X.env.locals = none
  freeC : ∀ x c, X.env.cells.lookup x = some c → H c = none
  pin : ∀ p ∈ X.pn ++ pins, s.heap.get? p.1 = some p.2 ∧ H p.1 = none ∧ p.1 ≠ X.env.locals ∧ p.1 ∉ X.fs ∧ ∀ v, p.2.data ≠ .cell v
  hok : HOk X.prog X.w H s.heap
  len : σ.length = X.N.length

section
variable {X : Cx} {pins : List (Addr × Obj)} {σ : List (Option V)} {H H' : Hp} {s : Shared} {h' : Heap}

theorem Cx.Ok.nofr (ok : X.Ok) {b : Addr} {o : Obj} (e : X.base.get? b = some o) : b ∉ X.fs := fun hb => by
  have := (ok.funs.mem hb).1
  rw [e] at this; cases this
theorem Inv.bs (I : Inv X pins σ H s) : ∀ b o, X.base.get? b = some o → s.heap.get? b = some o ∧ H b = none := fun b o e =>
  ⟨I.base.keep b o (I.ok.bs b o e).1 (I.ok.bs b o e).2 (I.ok.nofr e) (I.ok.noex b o e), I.base.free b o (I.ok.bs b o e).1 (I.ok.bs b o e).2 (I.ok.noex b o e)⟩
theorem Inv.bk (I : Inv X pins σ H s) : ∀ b o, X.base.get? b = some o → s.heap.get? b = some o := fun b o e => (I.bs b o e).1
theorem Inv.mod (I : Inv X pins σ H s) : Mod X.K X.mg X.base := I.ok.mod
theorem Inv.kIn (I : Inv X pins σ H s) : X.K.In s.heap := I.ok.mod.kin.keeps I.bk
/-- the frame over the base: for OpenK's rules (K.In X.base is I.mod.kin) -/
theorem Inv.fr (I : Inv X pins σ H s) : ∃ m, Fr X.base X.env.locals s.heap m :=
  let ⟨m, hn, _⟩ := I.loc
  ⟨m, hn, I.bk, Nat.le_trans I.ok.bsz I.ok.above⟩
theorem Inv.lt (I : Inv X pins σ H s) : X.env.locals < s.heap.objs.size := let ⟨_, hn, _⟩ := I.loc; hn.lt
theorem Inv.sz (I : Inv X pins σ H s) : X.s₀.heap.objs.size ≤ s.heap.objs.size := Nat.le_trans I.ok.above (Nat.le_of_lt I.lt)
theorem Inv.nofs (I : Inv X pins σ H s) {a : Addr} (h : s.heap.objs.size ≤ a) : a ∉ X.fs := fun hb => by
  obtain ⟨_, o, ho, _⟩ := I.ok.funs.mem hb
  exact absurd (Nat.lt_of_lt_of_le (Heap.lt_size ho) (Nat.le_trans I.sz h)) (Nat.lt_irrefl _)
theorem Inv.cne (I : Inv X pins σ H s) : ∀ x c, X.env.cells.lookup x = some c → c ≠ X.env.locals := fun x c e z => by
  obtain ⟨v, o, ho, hd⟩ := I.cell x c e
  obtain ⟨m, ⟨o', es, ep, ho', hd', _⟩, _⟩ := I.loc
  rw [z, ho'] at ho; cases ho; rw [hd'] at hd; cases hd
theorem Inv.funs (I : Inv X pins σ H s) : s.heap.FunFrames X.base X.outer := by
  have all : ∀ (l : List Env), (∀ b ∈ frs l, b ∈ X.fs) → X.s₀.heap.FunFrames X.base l → s.heap.FunFrames X.base l := by
    intro l
    induction l with
    | nil => intro _ _; trivial
    | cons env r ih =>
      intro hs hl
      obtain ⟨hk, ⟨L, o, hf, hn, ho, hd⟩, hr⟩ := hl
      have hL : L ∈ X.fs := hs L (by unfold frs; rw [List.filterMap_cons, hf]; exact List.mem_cons_self)
      obtain ⟨sl, e⟩ := I.base.slot L o ho (I.ok.frf L hL) hL fun z => I.ok.exfs L z hL
      exact ⟨hk, ⟨L, _, hf, hn, e, hd⟩, ih (fun b hb => hs b (by unfold frs; rw [List.filterMap_cons, hf]; exact List.mem_cons_of_mem _ hb)) hr⟩
  exact all X.outer (fun _ hb => hb) I.ok.funs

/-- the frames that run, for a call -/
theorem Inv.stack (I : Inv X pins σ H s) : s.heap.FunFrames X.base X.stack := by
  rcases I.ok.stk with e | ⟨e, hf⟩
  · rw [e]; exact I.funs
  · rw [e]
    obtain ⟨m, hn, _⟩ := I.loc
    refine .cons (by rw [I.ok.kind]; decide) hf hn ?_ I.funs
    exact Heap.get?_none_of_le (Nat.le_trans I.ok.bsz I.ok.above)
theorem Inv.stkSub (I : Inv X pins σ H s) : ∀ b ∈ frs X.stack, b ∈ X.env.locals :: X.fs := fun b hb => by
  rcases I.ok.stk with e | ⟨e, hf⟩
  · rw [e] at hb; exact List.mem_cons_of_mem _ hb
  · rw [e] at hb
    unfold frs at hb
    rw [List.filterMap_cons, hf] at hb
    exact hb
theorem Inv.stkFree (I : Inv X pins σ H s) : ∀ b ∈ frs X.stack, H b = none := fun b hb => by
  rcases List.mem_cons.mp (I.stkSub b hb) with e | hb
  · rw [e]; exact I.free
  · obtain ⟨_, o, ho, _⟩ := I.ok.funs.mem hb
    exact I.base.free b o ho (I.ok.frf b hb) fun z => I.ok.exfs b z hb

/-- THE STEP: the untracked objects but the frame and the records at ch are kept (the callers' frames up to slots), the frame's map is kept, the new abstract heap is held -/
theorem Inv.step {g' : Array GenState} {t' : Nat} {d' : Drawn} {ch : List Addr} (I : Inv X pins σ H s)
    (hch : ∀ b ∈ ch, (b ∈ X.ex ∨ X.s₀.heap.objs.size ≤ b) ∧ b ≠ X.env.locals ∧ (∀ x c, X.env.cells.lookup x = some c → c ≠ b) ∧ ∀ p ∈ X.pn ++ pins, p.1 ≠ b)
    (keep : ∀ b o, b ≠ X.env.locals → b ∉ X.fs → b ∉ ch → s.heap.get? b = some o → H b = none → h'.get? b = some o)
    (slot : ∀ b o, b ≠ X.env.locals → b ∈ X.fs → b ∉ ch → s.heap.get? b = some o → H b = none → ∃ sl, h'.get? b = some { o with slots := sl }) (free : ∀ b o, b ∉ ch → s.heap.get? b = some o → H b = none → H' b = none)
    (there : ∀ b o, b ∉ ch → s.heap.get? b = some o → ∃ o', h'.get? b = some o')
    (tups : ∀ b xs, H b = some (.tup xs) → H' b = some (.tup xs)) (frzs : ∀ b o u, H b = some (.frz o u) → H' b = some (.frz o u)) (tbls : ∀ b ps, H b = some (.tbl ps) → ∃ more, H' b = some (.tbl (ps ++ more)))
    (ns : ∀ m, s.heap.Ns X.env.locals m → h'.Ns X.env.locals m) (hok : HOk X.prog X.w H' h') (hg : AllBare g') :
    Inv X pins σ H' { s with heap := h', gens := g', drawn := d', toks := t' } := by
  have neL : ∀ b o, X.s₀.heap.get? b = some o → b ≠ X.env.locals := fun b o e => Nat.ne_of_lt (Nat.lt_of_lt_of_le (Heap.lt_size e) I.ok.above)
  have neC : ∀ b o, X.s₀.heap.get? b = some o → b ∉ X.ex → b ∉ ch := fun b o e hx hb => by
    rcases (hch b hb).1 with z | z
    · exact hx z
    · exact absurd (Nat.lt_of_lt_of_le (Heap.lt_size e) z) (Nat.lt_irrefl _)
  have cellK : ∀ x c, X.env.cells.lookup x = some c → ∀ v, s.heap.IsCell c v → h'.IsCell c v := fun x c e v ⟨o, ho, hd⟩ => by
    have nch : c ∉ ch := fun z => (hch c z).2.2.1 x c e rfl
    by_cases hc : c ∈ X.fs
    · obtain ⟨sl, q⟩ := slot c o (I.cne x c e) hc nch ho (I.freeC x c e)
      exact ⟨_, q, hd⟩
    · exact ⟨o, keep c o (I.cne x c e) hc nch ho (I.freeC x c e), hd⟩
  refine ⟨I.ok, I.os, hg, ⟨fun b o e n hb hx => ?_, fun b o e n hb hx => ?_, fun b o e n hx => ?_, fun b o e hx => ?_, fun b xs e => tups b xs (I.base.tups b xs e), fun b o xs e => frzs b o xs (I.base.frzs b o xs e), fun b ps e => ?_⟩, ?_, fun x c e => ?_, ?_, fun x c e => ?_, fun p hp => ?_, hok, I.len⟩
  · exact keep b o (neL b o e) hb (neC b o e hx) (I.base.keep b o e n hb hx) (I.base.free b o e n hx)
  · obtain ⟨sl, e1⟩ := I.base.slot b o e n hb hx
    obtain ⟨sl', e2⟩ := slot b _ (neL b o e) hb (neC b o e hx) e1 (I.base.free b o e n hx)
    exact ⟨sl', e2⟩
  · obtain ⟨o', e1⟩ := I.base.there b o e hx
    exact free b o' (neC b o e hx) e1 (I.base.free b o e n hx)
  · obtain ⟨o', e1⟩ := I.base.there b o e hx
    exact there b o' (neC b o e hx) e1
  · obtain ⟨m1, e1⟩ := I.base.tbls b ps e
    obtain ⟨m2, e2⟩ := tbls b _ e1
    exact ⟨m1 ++ m2, by rw [e2, Array.append_assoc]⟩
  · obtain ⟨m, hn, hl⟩ := I.loc
    refine ⟨m, ns m hn, fun i x v e1 e2 e3 => ?_⟩
    obtain ⟨u, r, l⟩ := hl i x v e1 e2 e3
    refine ⟨u, r, ?_⟩
    rcases l with l | ⟨k, c, e, z⟩
    · exact .inl l
    · exact .inr ⟨k, c, e, cellK x c e _ z⟩
  · obtain ⟨v, z⟩ := I.cell x c e
    exact ⟨v, cellK x c e v z⟩
  · obtain ⟨m, ⟨o, _, _, ho, _⟩, _⟩ := I.loc
    exact free _ o (fun z => (hch _ z).2.1 rfl) ho I.free
  · obtain ⟨v, o, ho, hd⟩ := I.cell x c e
    exact free c o (fun z => (hch c z).2.2.1 x c e rfl) ho (I.freeC x c e)
  · obtain ⟨e, n, ne, nf, d⟩ := I.pin p hp
    have nch : p.1 ∉ ch := fun z => (hch p.1 z).2.2.2 p hp rfl
    exact ⟨keep p.1 p.2 ne nf nch e n, free p.1 p.2 nch e n, ne, nf, d⟩
/-- .. where the frame's own object is kept too -/
theorem Inv.un {t' : Nat} (I : Inv X pins σ H s) (u : Un X.fs [] H H' s.heap h') (hok : HOk X.prog X.w H' h') : Inv X pins σ H' { s with heap := h', toks := t' } := by
  obtain ⟨m, ⟨o, es, ep, ho, r⟩, _⟩ := id I.loc
  obtain ⟨sl, hL⟩ := u.any ho I.free (by simp)
  exact I.step (g' := s.gens) (d' := s.drawn) (ch := []) (fun _ z => nomatch z) (fun b o _ hb _ e n => u.keep b o e n hb (by simp)) (fun b o _ hb _ e n => u.slot b o e n hb (by simp)) (fun b o _ e n => u.free b o e n (by simp)) (fun b o _ e => u.there b o e (by simp)) u.tups u.frzs u.tbls (fun m' hm => by
    obtain ⟨o', es', ep', ho', r'⟩ := hm
    rw [ho] at ho'; cases ho'
    exact ⟨_, es', ep', hL, r'⟩) hok I.bare
/-- behind a call (or a comprehension's block): the slots of this frame may have changed too, the records at ch may have turned -/
theorem Inv.call {g' : Array GenState} {t' : Nat} {d' : Drawn} {ch : List Addr} (I : Inv X pins σ H s) (u : Un (frs X.stack) ch H H' s.heap h') (hok : HOk X.prog X.w H' h') (hg : AllBare g')
    (hch : ∀ b ∈ ch, (b ∈ X.ex ∨ X.s₀.heap.objs.size ≤ b) ∧ b ≠ X.env.locals ∧ (∀ x c, X.env.cells.lookup x = some c → c ≠ b) ∧ ∀ p ∈ X.pn ++ pins, p.1 ≠ b) :
    Inv X pins σ H' { s with heap := h', gens := g', drawn := d', toks := t' } := by
  obtain ⟨m, ⟨o, es, ep, ho, r⟩, _⟩ := id I.loc
  obtain ⟨sl, hL⟩ := u.any ho I.free fun z => (hch _ z).2.1 rfl
  exact I.step (ch := ch) hch (fun b o hL hb hc e n => u.keep b o e n (fun z => (List.mem_cons.mp (I.stkSub b z)).elim hL hb) hc) (fun b o _ _ hc e n => u.any e n hc) (fun b o hc e n => u.free b o e n hc) (fun b o hc e => u.there b o e hc) u.tups u.frzs u.tbls (fun m' hm => by
    obtain ⟨o', es', ep', ho', r'⟩ := hm
    rw [ho] at ho'; cases ho'
    exact ⟨_, es', ep', hL, r'⟩) hok hg
/-- an untracked record of ours (an iterator) has turned -/
theorem Inv.turned {t' : Nat} {it : Addr} (I : Inv X pins σ H s) (k : ∀ b o, b ≠ it → s.heap.get? b = some o → h'.get? b = some o) (hn : H it = none) (hL : it ≠ X.env.locals)
    (h1 : it ∈ X.ex ∨ X.s₀.heap.objs.size ≤ it) (h2 : ∀ x c, X.env.cells.lookup x = some c → c ≠ it) (h3 : ∀ p ∈ X.pn ++ pins, p.1 ≠ it) : Inv X pins σ H { s with heap := h', toks := t' } := by
  have nit : ∀ b u, H b = some u → b ≠ it := fun b u e z => by rw [z, hn] at e; cases e
  refine I.step (g' := s.gens) (d' := s.drawn) (ch := [it]) (fun b hb => ?_) (fun b o _ _ hc e _ => k b o (fun z => hc (by simp [z])) e) (fun b o _ _ hc e _ => ⟨o.slots, k b o (fun z => hc (by simp [z])) e⟩) (fun _ _ _ _ n => n)
    (fun b o hc e => ⟨o, k b o (fun z => hc (by simp [z])) e⟩) (fun _ _ e => e) (fun _ _ _ e => e) (fun b ps e => ⟨#[], by rw [e]; simp⟩) (fun m hm => ?_) (fun b u e => ?_) I.bare
  · have e : b = it := by simpa using hb
    subst e
    exact ⟨h1, hL, h2, h3⟩
  · obtain ⟨o, es, ep, ho, r⟩ := hm
    exact ⟨o, es, ep, k _ o (Ne.symm hL) ho, r⟩
  · refine (I.hok b u e).stay (fun c v hc q => k c v ?_ q) (fun _ q => q) fun _ _ q => q
    rcases hc with z | z
    · rw [z]; exact nit b u e
    · exact nit c _ z
theorem Inv.tok (I : Inv X pins σ H s) (t : Nat) : Inv X pins σ H { s with toks := t } := I.un (h' := s.heap) (t' := t) Un.refl I.hok
/-- all objects kept -/
theorem Inv.kept {t' : Nat} (I : Inv X pins σ H s) (k : ∀ b u, s.heap.get? b = some u → h'.get? b = some u) : Inv X pins σ H { s with heap := h', toks := t' } := I.un (Un.kept k) (I.hok.kept k)
/-- a new object laid and tracked -/
theorem Inv.laid {a : Addr} {o : HO} {t' : Nat} (I : Inv X pins σ H s) (k : ∀ b u, s.heap.get? b = some u → h'.get? b = some u) (hp : s.heap.objs.size ≤ a) (new : ObjOk X.prog X.w (upd H a o) h' a o) :
    Inv X pins σ (upd H a o) { s with heap := h', toks := t' } := I.un (Un.laid k hp (I.hok.fresh hp)) (I.hok.laid k hp new)
/-- an object written -/
theorem Inv.write {x e : Addr} {o : HO} {t' : Nat} (I : Inv X pins σ H s) (mu : Mut (H x)) (he : e = x ∨ H e = some (.own x)) (k : ∀ b u, b ≠ e → s.heap.get? b = some u → h'.get? b = some u) (heo : ∃ u, h'.get? e = some u)
    (new : ObjOk X.prog X.w (upd H x o) h' x o) : Inv X pins σ (upd H x o) { s with heap := h', toks := t' } := I.un (Un.write mu he k heo) (I.hok.write mu he k heo new)
/-- forgetting slots, pins -/
theorem Inv.weak {σ' : List (Option V)} (I : Inv X pins σ H s) (hl : σ'.length = σ.length) (w : ∀ (i : Nat) v, σ'[i]? = some (some v) → σ[i]? = some (some v)) : Inv X pins σ' H s :=
  ⟨I.ok, I.os, I.bare, I.base, let ⟨m, hn, hl'⟩ := I.loc; ⟨m, hn, fun i x v e1 e2 e3 => hl' i x v e1 (w i v e2) e3⟩, I.cell, I.free, I.freeC, I.pin, I.hok, hl.trans I.len⟩
theorem Inv.pins_of {pins' : List (Addr × Obj)} (I : Inv X pins σ H s) (h : ∀ p ∈ pins', s.heap.get? p.1 = some p.2 ∧ H p.1 = none ∧ p.1 ≠ X.env.locals ∧ p.1 ∉ X.fs ∧ ∀ v, p.2.data ≠ .cell v) : Inv X pins' σ H s :=
  ⟨I.ok, I.os, I.bare, I.base, I.loc, I.cell, I.free, I.freeC, fun p hp => (List.mem_append.mp hp).elim (fun z => I.pin p (List.mem_append_left _ z)) (h p), I.hok, I.len⟩

theorem nodup_ix {N : List Str} (hN : N.Nodup) {i j : Nat} {x : Str} (a : N[i]? = some x) (b : N[j]? = some x) : i = j := by
  obtain ⟨h1, e1⟩ := List.getElem?_eq_some_iff.mp a
  obtain ⟨h2, e2⟩ := List.getElem?_eq_some_iff.mp b
  exact (List.getElem_inj hN).mp (e1.trans e2.symm)

/-- a name is stored; what changed -/
theorem store_ok2 {M : Model} {A : Around} {E : Value → Shared → Prop} {i : Nat} {x : Str} {v : V} {u : Value} {Q : Unit → Shared → Prop} (I : Inv X pins σ H s) (hN : X.N.Nodup) (hi : X.N[i]? = some x) (hx : Loc X.env.scope x) (r : RelV v u)
    (h : ∀ s', Inv X pins (σ.set i (some v)) H s' → (∃ a, Heap.SameBut a s.heap s'.heap ∧ (a = X.env.locals ∨ X.env.cells.lookup x = some a)) → Q () s') (hf : X.fn x = true ∨ X.env.scope.names.lookup x = some .local := by first | exact .inl rfl | exact .inr rfl | assumption) : wpAny M A (storeName X.env x u) Q E s := by
  obtain ⟨m, hn, hl⟩ := id I.loc
  have hcls : (X.env.scope.kind == .class || (X.env.scope.kind == .module && X.env.locals != X.env.globals)) = false := by rw [I.ok.kind]; rfl
  have hiσ : i < σ.length := by rw [I.len]; exact (List.getElem?_eq_some_iff.mp hi).1
  have cne := I.cne
  have tracked : ∀ {a : Addr} {h' : Heap}, (∃ o, s.heap.get? a = some o ∧ H a = none) → Heap.SameBut a s.heap h' → HOk X.prog X.w H h' := fun {a h'} ha hs b ob e => by
    obtain ⟨_, _, hfree⟩ := ha
    refine (I.hok b ob e).stay (fun c w' hc q => (hs.2 c ?_).trans q) (fun _ q => q) fun _ _ q => q
    rintro rfl
    rcases hc with rfl | hc
    · rw [hfree] at e; cases e
    · rw [hfree] at hc; cases hc
  rcases hx with hk | hk
  · refine wpAny_storeName_local hk hn (fun h' hn' hs => ?_) hcls
    obtain ⟨oL, _, _, hoL, _⟩ := id hn
    refine h _ ⟨I.ok, I.os, I.bare, ⟨fun b o e n hb hx => ?_, fun b o e n hb hx => ?_, I.base.free, fun b o e hx => ?_, I.base.tups, I.base.frzs, I.base.tbls⟩, ⟨_, hn', fun j y v' e1 e2 e3 => ?_⟩, fun y c e => ?_, I.free, I.freeC, fun p hp => ?_, tracked ⟨oL, hoL, I.free⟩ hs, by simpa using I.len⟩ ⟨_, hs, .inl rfl⟩
    · exact (hs.2 b (Nat.ne_of_lt (Nat.lt_of_lt_of_le (Heap.lt_size e) I.ok.above))).trans (I.base.keep b o e n hb hx)
    · obtain ⟨sl, e1⟩ := I.base.slot b o e n hb hx
      exact ⟨sl, (hs.2 b (Nat.ne_of_lt (Nat.lt_of_lt_of_le (Heap.lt_size e) I.ok.above))).trans e1⟩
    · obtain ⟨o', e1⟩ := I.base.there b o e hx
      exact ⟨o', (hs.2 b (Nat.ne_of_lt (Nat.lt_of_lt_of_le (Heap.lt_size e) I.ok.above))).trans e1⟩
    · by_cases hj : j = i
      · subst hj
        rw [hi] at e1; cases e1
        rw [List.getElem?_set_self hiσ] at e2
        cases e2
        exact ⟨u, r, .inl ⟨hk, by simp⟩⟩
      · rw [List.getElem?_set_ne (Ne.symm hj)] at e2
        obtain ⟨u', r', q⟩ := hl j y v' e1 e2 e3
        refine ⟨u', r', ?_⟩
        rcases q with ⟨k, e⟩ | ⟨k, c, e, z⟩
        · refine .inl ⟨k, ?_⟩
          have : y ≠ x := fun e => hj (nodup_ix hN e1 (e ▸ hi))
          simp [this, e]
        · exact .inr ⟨k, c, e, z.sameBut hs (cne y c e)⟩
    · obtain ⟨w', z⟩ := I.cell y c e
      exact ⟨w', z.sameBut hs (cne y c e)⟩
    · obtain ⟨e, n, ne, nf, d⟩ := I.pin p hp
      exact ⟨(hs.2 p.1 ne).trans e, n, ne, nf, d⟩
  · have hfn : X.fn x = true := by
      rcases hf with z | z
      · exact z
      · rw [z] at hk; cases hk
    obtain ⟨c, hc⟩ := I.ok.has x (.inl hk)
    obtain ⟨w', z⟩ := I.cell x c hc
    refine wpAny_storeName_cell I.ok.kind hk hc z (fun h' hc' hs => ?_)
    obtain ⟨oc, hoc, hocd⟩ := id z
    refine h { s with heap := h' } ⟨I.ok, I.os, I.bare, ⟨fun b o e n hb hx => ?_, fun b o e n hb hx => ?_, I.base.free, fun b o e hx => ?_, I.base.tups, I.base.frzs, I.base.tbls⟩, ⟨m, hn.sameBut hs (Ne.symm (cne x c hc)), fun j y v' e1 e2 e3 => ?_⟩, fun y c' e => ?_, I.free, I.freeC, fun p hp => ?_, tracked ⟨oc, hoc, I.freeC x c hc⟩ hs, by simpa using I.len⟩ ⟨c, hs, .inr hc⟩
    · exact (hs.2 b (Nat.ne_of_lt (Nat.lt_of_lt_of_le (Heap.lt_size e) (I.ok.cab x c hfn hc)))).trans (I.base.keep b o e n hb hx)
    · obtain ⟨sl, e1⟩ := I.base.slot b o e n hb hx
      exact ⟨sl, (hs.2 b (Nat.ne_of_lt (Nat.lt_of_lt_of_le (Heap.lt_size e) (I.ok.cab x c hfn hc)))).trans e1⟩
    · obtain ⟨o', e1⟩ := I.base.there b o e hx
      exact ⟨o', (hs.2 b (Nat.ne_of_lt (Nat.lt_of_lt_of_le (Heap.lt_size e) (I.ok.cab x c hfn hc)))).trans e1⟩
    · by_cases hj : j = i
      · subst hj
        rw [hi] at e1; cases e1
        rw [List.getElem?_set_self hiσ] at e2
        cases e2
        exact ⟨u, r, .inr ⟨.inl hk, c, hc, hc'⟩⟩
      · rw [List.getElem?_set_ne (Ne.symm hj)] at e2
        obtain ⟨u', r', q⟩ := hl j y v' e1 e2 e3
        refine ⟨u', r', ?_⟩
        rcases q with q | ⟨k, c', e, z'⟩
        · exact .inl q
        · refine .inr ⟨k, c', e, z'.sameBut hs ?_⟩
          rintro rfl
          exact hj (nodup_ix hN e1 (I.ok.inj _ _ _ e hc ▸ hi))
    · by_cases hcc : c' = c
      · subst hcc; exact ⟨_, hc'⟩
      · obtain ⟨w2, z2⟩ := I.cell y c' e
        exact ⟨w2, z2.sameBut hs hcc⟩
    · obtain ⟨e, n, ne, nf, d⟩ := I.pin p hp
      refine ⟨(hs.2 p.1 ?_).trans e, n, ne, nf, d⟩
      intro q
      rw [q, hoc] at e
      have q' : oc = p.2 := Option.some.inj e
      exact d w' (by rw [← q']; exact hocd)
theorem store_ok {M : Model} {A : Around} {E : Value → Shared → Prop} {i : Nat} {x : Str} {v : V} {u : Value} {Q : Unit → Shared → Prop} (I : Inv X pins σ H s) (hN : X.N.Nodup) (hi : X.N[i]? = some x) (hx : Loc X.env.scope x) (r : RelV v u)
    (h : ∀ s', Inv X pins (σ.set i (some v)) H s' → Q () s') (hf : X.fn x = true ∨ X.env.scope.names.lookup x = some .local := by first | exact .inl rfl | exact .inr rfl | assumption) : wpAny M A (storeName X.env x u) Q E s :=
  store_ok2 I hN hi hx r (fun s' I' _ => h s' I') hf
/-- behind a call or a block, the state as it is -/
theorem Inv.call' {s' : Shared} {ch : List Addr} (I : Inv X pins σ H s) (ho : s'.os = s.os) (u : Un (frs X.stack) ch H H' s.heap s'.heap) (hok : HOk X.prog X.w H' s'.heap) (hg : AllBare s'.gens)
    (hch : ∀ b ∈ ch, (b ∈ X.ex ∨ X.s₀.heap.objs.size ≤ b) ∧ b ≠ X.env.locals ∧ (∀ x c, X.env.cells.lookup x = some c → c ≠ b) ∧ ∀ p ∈ X.pn ++ pins, p.1 ≠ b) : Inv X pins σ H' s' := by
  obtain ⟨h', g', d', t', o'⟩ := s'
  have e : o' = s.os := ho
  subst e
  exact I.call (g' := g') (t' := t') (d' := d') u hok hg hch
end

/-! ### the judgements -/
/-- an exception: its class, its own dict's address (where it has one), the abstract heap behind it -/
noncomputable abbrev XK := Value → Option Addr → Hp → Prop
noncomputable abbrev St := List (Option V)
noncomputable abbrev VK := V → Hp → Prop
/-- an expression's reading; a test's; an argument list's -/
noncomputable abbrev TE := St → Hp → VK → Prop
noncomputable abbrev TT := St → Hp → (Bool → Hp → Prop) → Prop
noncomputable abbrev TA := St → Hp → (List V → Hp → Prop) → Prop
/-- what is wanted behind a statement -/
structure Ends where
  nx : St → Hp → Prop
  rt : VK
  bk : St → Hp → Prop := fun _ _ => False
  ct : St → Hp → Prop := fun _ _ => False
noncomputable abbrev TS := Ends → St → Hp → Prop

noncomputable def EP (X : Cx) (pins : List (Addr × Obj)) (σ : St) (Q : VK) (u : Value) (s' : Shared) : Prop := ∃ v H', Inv X pins σ H' s' ∧ RelV v u ∧ Q v H'
noncomputable def TP (X : Cx) (pins : List (Addr × Obj)) (σ : St) (Q : Bool → Hp → Prop) (b : Bool) (s' : Shared) : Prop := ∃ H', Inv X pins σ H' s' ∧ Q b H'
noncomputable def AP (X : Cx) (pins : List (Addr × Obj)) (σ : St) (Q : List V → Hp → Prop) (us : List Value) (s' : Shared) : Prop := ∃ vs H', Inv X pins σ H' s' ∧ Vals vs us ∧ Q vs H'
noncomputable def SP (X : Cx) (pins : List (Addr × Obj)) (D : Ends) (f : Flow) (s' : Shared) : Prop :=
  match f with
  | .next => ∃ σ' H', Inv X pins σ' H' s' ∧ D.nx σ' H'
  | .brk => ∃ σ' H', Inv X pins σ' H' s' ∧ D.bk σ' H'
  | .cont => ∃ σ' H', Inv X pins σ' H' s' ∧ D.ct σ' H'
  | .ret u => ∃ v σ' H', Inv X pins σ' H' s' ∧ RelV v u ∧ D.rt v H'

noncomputable def PE (X : Cx) (e : Expr) (t : TE) : Prop :=
  ∀ (pins : List (Addr × Obj)) (s : Shared) (σ : St) (H : Hp) (Q : VK), Inv X pins σ H s → t σ H Q → wpAny (model X.prog X.w) X.A (eval e X.env) (EP X pins σ Q) X.xe s
noncomputable def PT (X : Cx) (e : Expr) (t : TT) : Prop :=
  ∀ (pins : List (Addr × Obj)) (s : Shared) (σ : St) (H : Hp) (Q : Bool → Hp → Prop), Inv X pins σ H s → t σ H Q → wpAny (model X.prog X.w) X.A (isTrue e X.env (eval e X.env)) (TP X pins σ Q) X.xe s
/-- a test whatever its 'whole' is (and, or) -/
noncomputable def PW (X : Cx) (e : Expr) (t : TT) : Prop :=
  ∀ (whole : Sem Value) (pins : List (Addr × Obj)) (s : Shared) (σ : St) (H : Hp) (Q : Bool → Hp → Prop), Inv X pins σ H s → t σ H Q → wpAny (model X.prog X.w) X.A (isTrue e X.env whole) (TP X pins σ Q) X.xe s
theorem PW.pt {X : Cx} {e : Expr} {t : TT} (h : PW X e t) : PT X e t := h _
/-- an argument list (no star), from the left -/
noncomputable def PA (X : Cx) (es : List Expr) (t : TA) : Prop :=
  ∀ (pos : Pos) (pins : List (Addr × Obj)) (s : Shared) (σ : St) (H : Hp) (Q : List V → Hp → Prop), Inv X pins σ H s → t σ H Q → wpAny (model X.prog X.w) X.A (spliced (backTo pos (starEach es X.env))) (AP X pins σ Q) X.xe s
noncomputable def PS (X : Cx) (st : Stmt) (t : TS) : Prop :=
  ∀ (pins : List (Addr × Obj)) (s : Shared) (σ : St) (H : Hp) (D : Ends), Inv X pins σ H s → t D σ H → wpAny (model X.prog X.w) X.A (exec st X.env) (SP X pins D) X.xe s
noncomputable def PSs (X : Cx) (st : List Stmt) (t : TS) : Prop :=
  ∀ (pins : List (Addr × Obj)) (s : Shared) (σ : St) (H : Hp) (D : Ends), Inv X pins σ H s → t D σ H → wpAny (model X.prog X.w) X.A (execs st X.env) (SP X pins D) X.xe s
/-- weaken the end -/
theorem thn {α : Type} {t : Sem α} {Q Q' : α → Shared → Prop} {M : Model} {A : Around} {E : Value → Shared → Prop} {s : Shared} (h : wpAny M A t Q E s) (hQ : ∀ a s, Q a s → Q' a s) : wpAny M A t Q' E s := wpAny_mono h hQ fun _ _ x => x
end L2

namespace L2
open PySem PySem.Spec PyProof.Rows
section
variable {X : Cx}

/-- two expressions in a row -/
theorem bin {a b : Expr} {ta tb : TE} (ha : PE X a ta) (hb : PE X b tb) {pins : List (Addr × Obj)} {s : Shared} {σ : St} {H : Hp} {R : V → V → Hp → Prop} (I : Inv X pins σ H s) (h : ta σ H fun x H1 => tb σ H1 fun y H2 => R x y H2)
    {α : Type} {Q : α → Shared → Prop} {f : Value → Value → Sem α}
    (hf : ∀ v u s2 x y H2, Inv X pins σ H2 s2 → RelV x v → RelV y u → R x y H2 → wpAny (model X.prog X.w) X.A (f v u) Q X.xe s2) :
    wpAny (model X.prog X.w) X.A (eval a X.env) (fun v s₁ => wpAny (model X.prog X.w) X.A (eval b X.env) (fun u s₂ => wpAny (model X.prog X.w) X.A (f v u) Q X.xe s₂) X.xe s₁) X.xe s := by
  refine thn (ha pins s σ H _ I h) fun v s1 ⟨x, H1, I1, r1, q1⟩ => ?_
  refine thn (hb pins s1 σ H1 _ I1 q1) fun u s2 ⟨y, H2, I2, r2, q2⟩ => ?_
  exact hf v u s2 x y H2 I2 r1 r2 q2

/-! ### names and constants -/
noncomputable def tVar (i : Nat) : TE := fun σ H Q => ∃ v, σ[i]? = some (some v) ∧ Q v H
noncomputable def tC (v : V) : TE := fun _ H Q => Q v H
theorem pe_var {i : Nat} {x : Str} {pos : Pos} (hN : X.N[i]? = some x) (hv : Vis X.env.scope x) (hd : (x == ("__debug__" : Str)) = false := by decide) (hcd : (x == ("__classdict__" : Str)) = false := by decide) : PE X (.Name x pos) (tVar i) := by
  intro pins s σ H Q I h
  obtain ⟨v, e, h⟩ := h
  obtain ⟨m, hn, hl⟩ := I.loc
  obtain ⟨u, r, l⟩ := hl i x v hN e hv
  have fin : EP X pins σ Q u s := ⟨v, H, I, r, h⟩
  rcases l with ⟨hk, hm⟩ | ⟨hk, c, hc, hcell⟩
  · exact wpAny_Name (wpAny_loadName_local I.ok.kind hk hn hm fin) hd
  · rcases hk with hk | hk
    · exact wpAny_Name (wpAny_loadName_cell I.ok.kind hk hc hcell fin) hd
    · exact wpAny_Name (wpAny_loadName_free I.ok.kind hk hc hcell fin hcd) hd
theorem pe_int {i j pos} : PE X (.Constant (.int i) j pos) (tC (.int i)) := fun _ _ _ H _ I h => wpAny_Constant_int ⟨.int i, H, I.tok _, ⟨_, rfl⟩, h⟩
theorem pe_bl {b j pos} : PE X (.Constant (.bool b) j pos) (tC (.bl b)) := fun _ _ _ H _ I h => Constant_bool ⟨.bl b, H, I, rfl, h⟩
theorem pe_non {j pos} : PE X (.Constant .none j pos) (tC .non) := fun _ _ _ H _ I h => Constant_none ⟨.non, H, I, rfl, h⟩
theorem pe_str {x j pos} : PE X (.Constant (.str x) j pos) (tC (.str x)) := fun _ _ _ H _ I h => Calls.Constant_str ⟨.str x, H, I.tok _, ⟨_, rfl⟩, h⟩

/-- a global name of the def -/
noncomputable def Gl (X : Cx) (x : Str) : Prop := X.env.kindOf x = some .globalImplicit
theorem ld_glob {E : Value → Shared → Prop} {pins : List (Addr × Obj)} {s : Shared} {σ : St} {H : Hp} {x : Str} {u : Value} {pos : Pos} {Q : Value → Shared → Prop} (I : Inv X pins σ H s) (hg : Gl X x) (hm : X.mg x = some u) (h : Q u s)
    (hd : (x == ("__debug__" : Str)) = false := by decide) : wpAny (model X.prog X.w) X.A (eval (.Name x pos) X.env) Q E s :=
  Calls.Name_function_global I.ok.kind hg (Calls.loadGlobal_global (by rw [I.ok.glob]; exact I.mod.glob.keeps I.bk) hm h) hd
theorem ld_blt {E : Value → Shared → Prop} {pins : List (Addr × Obj)} {s : Shared} {σ : St} {H : Hp} {x : Str} {u : Value} {pos : Pos} {Q : Value → Shared → Prop} (I : Inv X pins σ H s) (hg : Gl X x) (hm : X.mg x = none) (hv : bootBuiltins x = some u) (h : Q u s)
    (hn : x ≠ "__name__" := by decide) (hd : (x == ("__debug__" : Str)) = false := by decide) : wpAny (model X.prog X.w) X.A (eval (.Name x pos) X.env) Q E s := by
  obtain ⟨mb, h1, h2⟩ := I.mod.blt
  exact Calls.Name_function_global I.ok.kind hg (Calls.loadGlobal_builtin (by rw [I.ok.glob]; exact I.mod.glob.keeps I.bk) hm (by rw [I.ok.blt]; exact h1.keeps I.bk) ((h2 x hn).trans hv) h) hd
/-- a module's constant, a class, a function, as a value -/
theorem pe_glob {x : Str} {v : V} {u : Value} {pos : Pos} (hg : Gl X x) (hm : X.mg x = some u) (r : RelV v u) (hd : (x == ("__debug__" : Str)) = false := by decide) : PE X (.Name x pos) (tC v) :=
  fun _ _ _ H _ I h => ld_glob I hg hm ⟨v, H, I, r, h⟩ hd
theorem pe_bltn {x : Str} {v : V} {u : Value} {pos : Pos} (hg : Gl X x) (hm : X.mg x = none) (hv : bootBuiltins x = some u) (r : RelV v u) (hn : x ≠ "__name__" := by decide) (hd : (x == ("__debug__" : Str)) = false := by decide) : PE X (.Name x pos) (tC v) :=
  fun _ _ _ H _ I h => ld_blt I hg hm hv ⟨v, H, I, r, h⟩ hn hd

/-! ### arithmetic -/
variable {a b : Expr} {ta tb : TE} {pos : Pos}
/-! ### comparisons -/
noncomputable def PC (X : Cx) (op : CmpOp) (a b : Expr) (t : TE) : Prop :=
  ∀ (pins : List (Addr × Obj)) (s : Shared) (σ : St) (H : Hp) (Q : VK), Inv X pins σ H s → t σ H Q →
    wpAny (model X.prog X.w) X.A (eval a X.env) (fun v s₁ => wpAny (model X.prog X.w) X.A (eval b X.env) (fun u s₂ => wpAny (model X.prog X.w) X.A (compareOp op v u) (EP X pins σ Q) X.xe s₂) X.xe s₁) X.xe s
theorem nobehind (b : Expr) {op : CmpOp} (h : op ≠ .In) (h2 : op ≠ .NotIn) : behindInMarks op b = false := by
  have e1 : (op == CmpOp.In) = false := by cases op <;> first | rfl | exact absurd rfl h
  have e2 : (op == CmpOp.NotIn) = false := by cases op <;> first | rfl | exact absurd rfl h2
  cases b <;> simp [behindInMarks, e1, e2]
/-- a comparison as a value, as a test -/
noncomputable def tB (t : TE) : TT := fun σ H Q => t σ H fun x H1 => ∃ c, x = .bl c ∧ Q c H1
theorem pt_cmp {op : CmpOp} {t : TE} (h : PC X op a b t) (h1 : behindInMarks op b = false := by first | exact nobehind _ (by decide) (by decide) | rfl) : PT X (.Compare a [op] [b] pos) (tB t) := by
  intro pins s σ H Q I hw
  refine wpAny_isTrue_Compare1 (thn (h pins s σ H _ I hw) fun v s1 h1 => thn h1 fun u s2 h2 => thn h2 fun c s3 ⟨x, H1, I1, r1, q1⟩ => ?_) h1
  obtain ⟨d, rfl, q⟩ := q1
  cases r1
  exact wpAny_truthy_bool ⟨H1, I1, q⟩
/-- an expression whose value is a bool, as a test -/
theorem pt_val {e : Expr} {t : TE} (h : PE X e t) (he : ∀ whole, isTrue e X.env whole = (do let v ← whole; standAt e.pos; holding [v] (truthy v)) := by intro _; rfl) : PT X e (tB t) := by
  intro pins s σ H Q I hw
  refine isTrue_plain (thn (h pins s σ H _ I hw) fun v s1 ⟨x, H1, I1, r1, q1⟩ => ?_) (he _)
  obtain ⟨d, rfl, q⟩ := q1
  cases r1
  exact wpAny_truthy_bool ⟨H1, I1, q⟩

/-! ### and, or, not -/
variable {tA tB' : TT} {rest : List Expr}
noncomputable def tOr (t u : TT) : TT := fun σ H Q => t σ H fun c H1 => if c = true then Q true H1 else u σ H1 Q
noncomputable def tNot (t : TT) : TT := fun σ H Q => t σ H fun c H1 => Q (!c) H1
theorem pw_or1 (ha : PT X a tA) : PW X (.BoolOp .Or [a] pos) tA := by
  intro wh pins s σ H Q I h
  refine isTrue_or (thn (ha pins s σ H Q I h) fun c s1 e => ?_)
  cases c with
  | false => exact isTrue_or_nil e
  | true => exact e
theorem pw_or (ha : PT X a tA) (hb : PW X (.BoolOp .Or (b :: rest) pos) tB') : PW X (.BoolOp .Or (a :: b :: rest) pos) (tOr tA tB') := by
  intro wh pins s σ H Q I h
  refine isTrue_or (thn (ha pins s σ H _ I h) fun c s1 ⟨H1, I1, q1⟩ => ?_)
  cases c with
  | true => exact ⟨H1, I1, q1⟩
  | false => exact hb wh pins s1 σ H1 Q I1 q1
theorem pt_not (ha : PT X a tA) : PT X (.UnaryOp .Not a pos) (tNot tA) := by
  intro pins s σ H Q I h
  exact isTrue_not (ha pins s σ H (fun c H1 => Q (!c) H1) I h)
end
end L2

namespace L2
open PySem PySem.Spec PyProof.Rows

/-! ### a list, a tuple that is read: tracked, frozen, or an object of the module -/
noncomputable def SqL (K : PySem.W.Frag) (H : Hp) (a : Addr) (xs : List V) : Prop :=
  Rd H a (.lst xs) ∨
    ∃ (o : Obj) (its : Array Value) (n : Nat), K.lookup a = some o ∧ o.cls = .type "list" ∧ o.dict = none ∧ o.data = .seq its n ∧ its.size ≤ sizeLine ∧ Vals xs its.toList
noncomputable def SqT (K : PySem.W.Frag) (H : Hp) (a : Addr) (xs : List V) : Prop :=
  Rd H a (.tup xs) ∨
    ∃ (o : Obj) (its : Array Value) (n : Nat), K.lookup a = some o ∧ o.cls = .type "tuple" ∧ o.data = .seq its n ∧ its.size ≤ sizeLine ∧ Vals xs its.toList
noncomputable def absV : Value → Option V
  | .none => some .non
  | .bool b => some (.bl b)
  | .int i _ => some (.int i)
  | .str x _ => some (.str x)
  | .bytes b _ => some (.byt b)
  | .float b _ => some (.flt b)
  | .ref a => some (.ref a)
  | .type n => some (.ty n)
  | _ => none
theorem RelV.abs {x : V} {u : Value} (r : RelV x u) : absV u = some x := by
  cases x with
  | non => cases r; rfl
  | bl _ => cases r; rfl
  | int _ => obtain ⟨t, rfl⟩ := r; rfl
  | str _ => obtain ⟨t, rfl⟩ := r; rfl
  | byt _ => obtain ⟨t, rfl⟩ := r; rfl
  | flt _ => obtain ⟨t, rfl⟩ := r; rfl
  | ref _ => cases r; rfl
  | ty _ => cases r; rfl
theorem RelV.inj {x y : V} {u : Value} (r : RelV x u) (q : RelV y u) : x = y := Option.some.inj (r.abs.symm.trans q.abs)
theorem Vals.inj : ∀ {xs ys : List V} {us : List Value}, Vals xs us → Vals ys us → xs = ys
  | _, _, _, .nil, .nil => rfl
  | _, _, _, .cons r t, .cons r' t' => by rw [r.inj r', Vals.inj t t']
section
variable {X : Cx} {pins : List (Addr × Obj)} {σ : St} {H : Hp} {s : Shared} {a : Addr} {xs ys : List V}
theorem SqL.of {K : PySem.W.Frag} (h : H a = some (.lst xs)) : SqL K H a xs := .inl (.inl h)
theorem SqT.of {K : PySem.W.Frag} (h : H a = some (.tup xs)) : SqT K H a xs := .inl (.inl h)
theorem Inv.list (I : Inv X pins σ H s) (h : SqL X.K H a xs) : ∃ its : List Value, Vals xs its ∧ PlainL s.heap a its.toArray ∧ xs.length ≤ sizeLine := by
  rcases h with h | ⟨o, its, n, hk, hc, hd, hs, hz, r⟩
  · obtain ⟨z, its, n, r, e⟩ := h.ok I.hok
    exact ⟨its, r, ⟨_, n, e, rfl, rfl, rfl⟩, z⟩
  · refine ⟨its.toList, r, ⟨o, n, I.kIn a o hk, hc, hd, by simpa using hs⟩, ?_⟩
    have e := r.length
    simp only [Array.length_toList] at e
    omega
theorem Inv.tuple (I : Inv X pins σ H s) (h : SqT X.K H a xs) : ∃ its : List Value, Vals xs its ∧ IsTup s.heap a its.toArray ∧ xs.length ≤ sizeLine := by
  rcases h with h | ⟨o, its, n, hk, hc, hs, hz, r⟩
  · obtain ⟨z, its, r, p⟩ := h.ok I.hok
    exact ⟨its, r, p, z⟩
  · refine ⟨its.toList, r, ⟨o, I.kIn a o hk, hc, n, by simpa using hs⟩, ?_⟩
    have e := r.length
    simp only [Array.length_toList] at e
    omega
theorem Inv.list_inj (I : Inv X pins σ H s) (h : SqL X.K H a xs) (h' : SqL X.K H a ys) : xs = ys := by
  obtain ⟨its, r, ⟨o, n, e, _, _, d⟩, _⟩ := I.list h
  obtain ⟨its', r', ⟨o', n', e', _, _, d'⟩, _⟩ := I.list h'
  rw [e] at e'; cases e'
  rw [d] at d'
  injection d' with d1 _
  have : its = its' := by simpa using congrArg Array.toList d1
  subst this
  exact r.inj r'
end

/-! ### another wish about exceptions -/
noncomputable abbrev Cx.wish (X : Cx) (E : Value → Shared → Prop) : Cx := { X with xe := E }
/-- no exception leaves -/
noncomputable abbrev Cx.nox (X : Cx) : Cx := X.wish fun _ _ => False
theorem Cx.Ok.wish {X : Cx} (ok : X.Ok) (E : Value → Shared → Prop) : (X.wish E).Ok :=
  ⟨ok.mod, ok.kind, ok.glob, ok.blt, ok.above, ok.inj, ok.has, ok.cab, ok.hd, ok.frames, ok.stk, ok.exf, ok.bs, ok.bsz, ok.noex, ok.exfs, ok.funs, ok.frf⟩
theorem Cx.Ok.unwish {X : Cx} {E : Value → Shared → Prop} (ok : (X.wish E).Ok) : X.Ok :=
  ⟨ok.mod, ok.kind, ok.glob, ok.blt, ok.above, ok.inj, ok.has, ok.cab, ok.hd, ok.frames, ok.stk, ok.exf, ok.bs, ok.bsz, ok.noex, ok.exfs, ok.funs, ok.frf⟩
section
variable {X : Cx} {pins : List (Addr × Obj)} {σ : St} {H : Hp} {s : Shared} {E : Value → Shared → Prop}
theorem Inv.wish (I : Inv X pins σ H s) (E : Value → Shared → Prop) : Inv (X.wish E) pins σ H s := ⟨I.ok.wish E, I.os, I.bare, I.base, I.loc, I.cell, I.free, I.freeC, I.pin, I.hok, I.len⟩
theorem Inv.unwish (I : Inv (X.wish E) pins σ H s) : Inv X pins σ H s := ⟨I.ok.unwish, I.os, I.bare, I.base, I.loc, I.cell, I.free, I.freeC, I.pin, I.hok, I.len⟩
theorem SP.unwish {D : Ends} {f : Flow} {s' : Shared} (h : SP (X.wish E) pins D f s') : SP X pins D f s' := by
  cases f with
  | next => obtain ⟨σ', H', I, q⟩ := h; exact ⟨σ', H', I.unwish, q⟩
  | brk => obtain ⟨σ', H', I, q⟩ := h; exact ⟨σ', H', I.unwish, q⟩
  | cont => obtain ⟨σ', H', I, q⟩ := h; exact ⟨σ', H', I.unwish, q⟩
  | ret u => obtain ⟨v, σ', H', I, r, q⟩ := h; exact ⟨v, σ', H', I.unwish, r, q⟩
theorem PSs.nox {st : List Stmt} {t : TS} (h : PSs X.nox st t) : PSs X st t := fun pins s σ H D I hw =>
  wpAny_mono (h pins s σ H D (I.wish _) hw) (fun _ _ q => q.unwish) fun _ _ z => False.elim z
end

/-! ### blocks and small statements -/
section
variable {X : Cx} {st : Stmt} {rest : List Stmt} {t u : TS} {e : Expr} {te : TE} {pos : Pos}
noncomputable def tNext : TS := fun D σ H => D.nx σ H
noncomputable def tSeq (t u : TS) : TS := fun D σ H => t { D with nx := u D } σ H
theorem pss_nil : PSs X [] tNext := fun _ _ σ H _ I h => wpAny_execs_nil ⟨σ, H, I, h⟩
theorem pss_cons (h1 : PS X st t) (h2 : PSs X rest u) : PSs X (st :: rest) (tSeq t u) := by
  intro pins s σ H D I h
  refine wpAny_execs_cons (thn (h1 pins s σ H { D with nx := u D } I h) fun f s1 q => ?_)
  cases f with
  | next =>
    obtain ⟨σ', H', I', q⟩ := q
    exact h2 pins s1 σ' H' D I' q
  | ret v => exact q
  | brk => exact q
  | cont => exact q
theorem pss_one (h1 : PS X st t) : PSs X [st] t := by
  intro pins s σ H D I h
  refine wpAny_execs_cons (thn (h1 pins s σ H D I h) fun f s1 q => ?_)
  cases f with
  | next => exact wpAny_execs_nil q
  | ret v => exact q
  | brk => exact q
  | cont => exact q
/-- in a def's body nothing is shown -/
theorem Inv.quiet {pins : List (Addr × Obj)} {σ : St} {H : Hp} {s : Shared} (I : Inv X pins σ H s) : interactive X.env = false := by simp [interactive, I.ok.kind]
/-- an expression whose value is dropped -/
noncomputable def tDrop (te : TE) : TS := fun D σ H => te σ H fun _ H1 => D.nx σ H1
theorem ps_expr (he : PE X e te) (hs : swapsWith e none pos.line X.env = pure false := by rfl) : PS X (.Expr e pos) (tDrop te) := by
  intro pins s σ H D I h
  exact wpAny_Expr_any (thn (he pins s σ H _ I h) fun v s1 ⟨x, H1, I1, r1, q1⟩ => ⟨σ, H1, I1, q1⟩) I.quiet hs
noncomputable def tRet (te : TE) : TS := fun D σ H => te σ H D.rt
theorem ps_ret (he : PE X e te) : PS X (.Return (some e) pos) (tRet te) := by
  intro pins s σ H D I h
  exact wpAny_Return_some (thn (he pins s σ H _ I h) fun v s1 ⟨x, H1, I1, r1, q1⟩ => ⟨x, σ, H1, I1, r1, q1⟩)
noncomputable def tIfS (c : TT) (t u : TS) : TS := fun D σ H => c σ H fun b H1 => if b = true then t D σ H1 else u D σ H1
theorem ps_if {c : Expr} {a b : List Stmt} {tc : TT} (hc : PT X c tc) (ha : PSs X a t) (hb : PSs X b u) : PS X (.If c a b pos) (tIfS tc t u) := by
  intro pins s σ H D I h
  refine wpAny_If (thn (hc pins s σ H _ I h) fun d s1 ⟨H1, I1, q1⟩ => ?_)
  cases d with
  | true => exact ha pins s1 σ H1 D I1 q1
  | false => exact hb pins s1 σ H1 D I1 q1
end

/-! ### targets -/
noncomputable abbrev TG := V → St → Hp → (St → Hp → Prop) → Prop
noncomputable abbrev TGs := List V → St → Hp → (St → Hp → Prop) → Prop
noncomputable def PG (X : Cx) (target : Expr) (t : TG) : Prop :=
  ∀ (pins : List (Addr × Obj)) (s : Shared) (σ : St) (H : Hp) (v : V) (u : Value) (Q : St → Hp → Prop), Inv X pins σ H s → RelV v u → t v σ H Q →
    wpAny (model X.prog X.w) X.A (assign target X.env u) (fun _ s' => ∃ σ' H', Inv X pins σ' H' s' ∧ Q σ' H') X.xe s
/-- several targets, one after another -/
noncomputable def PGs (X : Cx) (ts : List Expr) (t : TGs) : Prop :=
  ∀ (pins : List (Addr × Obj)) (s : Shared) (σ : St) (H : Hp) (vs : List V) (us : List Value) (Q : St → Hp → Prop), Inv X pins σ H s → Vals vs us → t vs σ H Q →
    wpAny (model X.prog X.w) X.A (assignInOrder ((assignEach ts X.env).map (·.2)) us) (fun _ s' => ∃ σ' H', Inv X pins σ' H' s' ∧ Q σ' H') X.xe s
/-- a op= b, by values -/
noncomputable abbrev TIp := V → V → Hp → VK → Prop
noncomputable def PIp (X : Cx) (op : Operator) (t : TIp) : Prop :=
  ∀ (pins : List (Addr × Obj)) (s : Shared) (σ : St) (H : Hp) (x y : V) (v u : Value) (Q : VK), Inv X pins σ H s → RelV x v → RelV y u → t x y H Q →
    wpAny (model X.prog X.w) X.A (inplaceOp op v u) (EP X pins σ Q) X.xe s
section
variable {X : Cx} {pos : Pos}
noncomputable def gName (i : Nat) : TG := fun v σ H Q => Q (σ.set i (some v)) H
theorem pg_name {i : Nat} {x : Str} (hN : X.N.Nodup) (hi : X.N[i]? = some x) (hx : Loc X.env.scope x) (hf : X.fn x = true ∨ X.env.scope.names.lookup x = some .local := by first | exact .inl rfl | exact .inr rfl | assumption) : PG X (.Name x pos) (gName i) := by
  intro pins s σ H v u Q I r h
  exact wpAny_assign_Name (store_ok I hN hi hx r (fun s' I' => ⟨_, H, I', h⟩) hf)
noncomputable def gNil : TGs := fun vs σ H Q => vs = [] ∧ Q σ H
noncomputable def gCons (t : TG) (u : TGs) : TGs := fun vs σ H Q => ∃ v r, vs = v :: r ∧ t v σ H fun σ' H' => u r σ' H' Q
theorem pgs_nil : PGs X [] gNil := by
  intro pins s σ H vs us Q I r h
  obtain ⟨e, h⟩ := h
  subst e
  cases r
  exact assignInOrder_nil ⟨σ, H, I, h⟩
theorem pgs_cons {e : Expr} {es : List Expr} {t : TG} {u : TGs} (h1 : PG X e t) (h2 : PGs X es u)
    (hs : (assignEach (e :: es) X.env).map (·.2) = assign e X.env :: (assignEach es X.env).map (·.2) := by rfl) : PGs X (e :: es) (gCons t u) := by
  intro pins s σ H vs us Q I r h
  obtain ⟨v, vr, e1, h⟩ := h
  subst e1
  cases r with
  | cons r rr =>
    rw [hs]
    refine assignInOrder_cons (thn (h1 pins s σ H _ _ _ I r h) fun _ s1 ⟨σ1, H1, I1, q1⟩ => ?_)
    exact h2 pins s1 σ1 H1 _ _ Q I1 rr q1
/-- (a, b, ..) = a tuple of that length -/
noncomputable def gTup (K : PySem.W.Frag) (n : Nat) (t : TGs) : TG := fun v σ H Q => ∃ a xs, v = .ref a ∧ SqT K H a xs ∧ xs.length = n ∧ t xs σ H Q
theorem pg_tup {es : List Expr} {k : Nat} {t : TGs} {n : Nat} (hc : X.calm = true) (h : PGs X es t)
    (hn : (assignEach es X.env).length = n := by rfl) (hst : (assignEach es X.env).findIdx? (·.1) = none := by rfl) : PG X (.Tuple es k pos) (gTup X.K n t) := by
  intro pins s σ H v u Q I r hw
  obtain ⟨a, xs, e1, hq, hl, hw⟩ := hw
  subst e1
  cases r
  obtain ⟨its, rv, ht, hz⟩ := I.tuple hq
  refine assign_Tuple_tuple (I.ok.hd hc) ht (by simp [hn, ← hl, rv.length]) hst fun h' hx => ?_
  have I1 : Inv X pins σ H { s with heap := h' } := I.kept (t' := s.toks) fun b o e => hx b o (Nat.ne_of_lt (Heap.lt_size e)) e
  exact h pins _ σ H xs _ Q I1 (by simpa using rv) hw
/-- target = value -/
noncomputable def tAsg (te : TE) (g : TG) : TS := fun D σ H => te σ H fun x H1 => g x σ H1 D.nx
/-- name = value -/
theorem ps_set {i : Nat} {x : Str} {e : Expr} {te : TE} {pos' : Pos} (hN : X.N.Nodup) (hi : X.N[i]? = some x) (hx : Loc X.env.scope x) (he : PE X e te) (hs : swapsWith e (some (.Name x pos')) pos.line X.env = pure false := by rfl) (hf : X.fn x = true ∨ X.env.scope.names.lookup x = some .local := by first | exact .inl rfl | exact .inr rfl | assumption) :
    PS X (.Assign [.Name x pos'] e pos) (tAsg te (gName i)) := by
  intro pins s σ H D I h
  refine wpAny_Assign_Name (thn (he pins s σ H _ I h) fun v s1 ⟨y, H1, I1, r1, q1⟩ => ?_) hs
  exact store_ok I1 hN hi hx r1 (fun s2 I2 => ⟨_, H1, I2, q1⟩) hf
/-- name op= e -/
noncomputable def tAug (i : Nat) (te : TE) (ti : TIp) : TS := fun D σ H => ∃ x, σ[i]? = some (some x) ∧ te σ H fun y H1 => ti x y H1 fun z H2 => D.nx (σ.set i (some z)) H2
theorem ps_aug {i : Nat} {x : Str} {e : Expr} {te : TE} {op : Operator} {ti : TIp} {pos' : Pos} (hN : X.N.Nodup) (hi : X.N[i]? = some x) (hx : Loc X.env.scope x) (he : PE X e te) (ho : PIp X op ti) (hf : X.fn x = true ∨ X.env.scope.names.lookup x = some .local := by first | exact .inl rfl | exact .inr rfl | assumption) :
    PS X (.AugAssign (.Name x pos') op e pos) (tAug i te ti) := by
  intro pins s σ H D I h
  obtain ⟨v, e1, h⟩ := h
  obtain ⟨m, hn, hl⟩ := I.loc
  have vis : Vis X.env.scope x := by rcases hx with k | k; exact .inl k; exact .inr (.inl k)
  obtain ⟨u, r, l⟩ := hl i x v hi e1 vis
  refine wpAny_AugAssign_Name ?_
  have go : wpAny (model X.prog X.w) X.A (eval e X.env) (fun w s₂ => wpAny (model X.prog X.w) X.A (inplaceOp op u w) (fun r s₃ => wpAny (model X.prog X.w) X.A (storeName X.env x r) (fun _ => SP X pins D .next) X.xe s₃) X.xe s₂) X.xe s := by
    refine thn (he pins s σ H _ I h) fun w s1 ⟨y, H1, I1, r1, q1⟩ => ?_
    refine thn (ho pins s1 σ H1 v y u w _ I1 r r1 q1) fun z s2 ⟨zv, H2, I2, r2, q2⟩ => ?_
    exact store_ok I2 hN hi hx r2 (fun s3 I3 => ⟨_, H2, I3, q2⟩) hf
  rcases l with ⟨hk, hm⟩ | ⟨hk, c, hc, hcell⟩
  · exact wpAny_loadName_local I.ok.kind hk hn hm go
  · rcases hk with hk | hk
    · exact wpAny_loadName_cell I.ok.kind hk hc hcell go
    · rcases hx with k | k
      · have : X.env.scope.names.lookup x = some .free := hk
        rw [k] at this; cases this
      · have : X.env.scope.names.lookup x = some .free := hk
        rw [k] at this; cases this
/-- ints -/
noncomputable def ipI (f : Int → Int → Int) : TIp := fun x y H Q => ∃ i j, x = .int i ∧ y = .int j ∧ Q (.int (f i j)) H
theorem ip_add : PIp X .Add (ipI fun i j => i + j) := by
  intro pins s σ H x y v u Q I r1 r2 h
  obtain ⟨i, j, e1, e2, q⟩ := h
  subst e1; subst e2
  obtain ⟨t, rfl⟩ := r1
  obtain ⟨t', rfl⟩ := r2
  exact iadd_int ⟨.int _, H, I.tok _, ⟨_, rfl⟩, q⟩
theorem ip_sub : PIp X .Sub (ipI fun i j => i - j) := by
  intro pins s σ H x y v u Q I r1 r2 h
  obtain ⟨i, j, e1, e2, q⟩ := h
  subst e1; subst e2
  obtain ⟨t, rfl⟩ := r1
  obtain ⟨t', rfl⟩ := r2
  exact isub_int ⟨.int _, H, I.tok _, ⟨_, rfl⟩, q⟩
end

/-! ### while -/
section
variable {X : Cx} {pos : Pos}
/-- the invariant W with its measure -/
noncomputable def tWhile (c : TT) (tb : TS) : TS := fun D σ H => ∃ W : Nat → St → Hp → Prop, (∃ m, W m σ H) ∧ ∀ m σ H, W m σ H →
  c σ H fun b H1 => if b = true then ∃ N : St → Hp → Prop, (∀ σ' H', N σ' H' → ∃ m', m' < m ∧ W m' σ' H') ∧ tb { D with nx := N, ct := N, bk := D.nx } σ H1 else D.nx σ H1
theorem ps_while {c : Expr} {body : List Stmt} {tc : TT} {tb : TS} (hp : PassesOwn (model X.prog X.w) X.A X.env X.xe) (hc : PT X c tc) (hb : PSs X body tb) : PS X (.While c body [] pos) (tWhile tc tb) := by
  intro pins s σ H D I h
  obtain ⟨W, ⟨m0, w0⟩, turn⟩ := h
  refine wpAny_While (codeAny_whileLoop (fun n s' => ∃ σ' H', Inv X pins σ' H' s' ∧ W n σ' H') ?_ m0 ⟨σ, H, I, w0⟩)
  rintro n s1 ⟨σ1, H1, I1, w1⟩
  refine wpAny_passesOwn hp (thn (hc pins s1 σ1 H1 _ I1 (turn n σ1 H1 w1)) fun b s2 ⟨H2, I2, q2⟩ => ?_)
  cases b with
  | true =>
    obtain ⟨N, hN, q2⟩ := q2
    rw [if_pos rfl]
    refine wpAny_passesOwn hp (thn (hb pins s2 σ1 H2 _ I2 q2) fun f s3 q3 => ?_)
    cases f with
    | next =>
      obtain ⟨σ3, H3, I3, n3⟩ := q3
      obtain ⟨m', hm, w3⟩ := hN σ3 H3 n3
      exact ⟨m', hm, σ3, H3, I3, w3⟩
    | cont =>
      obtain ⟨σ3, H3, I3, n3⟩ := q3
      obtain ⟨m', hm, w3⟩ := hN σ3 H3 n3
      exact ⟨m', hm, σ3, H3, I3, w3⟩
    | brk => exact q3
    | ret v => exact q3
  | false =>
    rw [if_neg Bool.false_ne_true]
    exact wpAny_execs_nil ⟨σ1, H2, I2, q2⟩
end

/-! ### what a loop or a comprehension walks -/
/-- at turn i: it yields x (the heap may grow), or it stops -/
structure It where
  go : Nat → Hp → Prop
  yld : Nat → Hp → V → Hp → Prop
  stop : Nat → Hp → Prop
/-- the iterator's own objects may turn: they are not the frame's, not pinned, younger than the entry (or a comprehension's own) -/
noncomputable def FpOk (X : Cx) (pins : List (Addr × Obj)) (H : Hp) (b : Addr) : Prop :=
  H b = none ∧ b ≠ X.env.locals ∧ b ∉ X.fs ∧ (b ∈ X.ex ∨ X.s₀.heap.objs.size ≤ b) ∧ (∀ x c, X.env.cells.lookup x = some c → c ≠ b) ∧ ∀ p ∈ X.pn ++ pins, p.1 ≠ b
theorem Inv.fpOk {X : Cx} {pins : List (Addr × Obj)} {σ : St} {H H' : Hp} {s : Shared} {b : Addr} (I : Inv X pins σ H s) (hb : s.heap.objs.size ≤ b) (hn : H' b = none) : FpOk X pins H' b := by
  refine ⟨hn, Nat.ne_of_gt (Nat.lt_of_lt_of_le I.lt hb), I.nofs hb, .inr (Nat.le_trans I.sz hb), fun x c e z => ?_, fun p hp z => ?_⟩
  · obtain ⟨v, q⟩ := I.cell x c e
    exact absurd (Nat.lt_of_lt_of_le q.lt (by rw [z]; exact hb)) (Nat.lt_irrefl _)
  · exact absurd (Nat.lt_of_lt_of_le (Heap.lt_size (I.pin p hp).1) (by rw [z]; exact hb)) (Nat.lt_irrefl _)
structure Turn (P : Program) (w : World) (K : PySem.W.Frag) (tg : Expr) (J : It) (fp : List Addr) (it : Addr) (tn : Nat → Heap → Prop) : Prop where
  mem : it ∈ fp
  obj : ∀ i h, tn i h → ∀ b ∈ fp, ∃ o, h.get? b = some o ∧ ∀ v, o.data ≠ .cell v
  keep : ∀ i h h', tn i h → (∀ b ∈ fp, ∀ o, h.get? b = some o → h'.get? b = some o) → tn i h'
  item : ∀ (X : Cx), X.prog = P → X.w = w → X.K = K → X.calm = true → ∀ (i : Nat) (pins : List (Addr × Obj)) (s : Shared) (σ : St) (H : Hp) (E : Value → Shared → Prop), Inv X pins σ H s → (∀ b ∈ fp, FpOk X pins H b) → tn i s.heap → J.go i H →
    wpAny (model P w) X.A (pyNext (.ref it)) (fun r s1 => ∃ u, r = some u ∧
      wpAny (model P w) X.A (letOwnedTupleGo tg (.ref it) u) (fun _ s2 => ∃ x H', Inv X pins σ H' s2 ∧ RelV x u ∧ J.yld i H x H' ∧ tn (i + 1) s2.heap ∧ ∀ b ∈ fp, H' b = none) E s1) E s
  done : ∀ (X : Cx), X.prog = P → X.w = w → X.K = K → X.calm = true → ∀ (i : Nat) (pins : List (Addr × Obj)) (s : Shared) (σ : St) (H : Hp) (E : Value → Shared → Prop), Inv X pins σ H s → (∀ b ∈ fp, FpOk X pins H b) → tn i s.heap → J.stop i H →
    wpAny (model P w) X.A (pyNext (.ref it)) (fun r s1 => r = none ∧ Inv X pins σ H s1) E s
  self : ∀ (A : Around) (i : Nat) (s : Shared) (Q : Value → Shared → Prop) (E : Value → Shared → Prop), tn i s.heap → Q (.ref it) s → wpAny (model P w) A (pyIter (.ref it)) Q E s
noncomputable abbrev TI := St → Hp → (It → Hp → Prop) → Prop
/-- an iterator has come -/
noncomputable def PIE (X : Cx) (pins : List (Addr × Obj)) (σ : St) (tg : Expr) (R : It → Hp → Prop) (itv : Value) (s2 : Shared) : Prop :=
  ∃ (it : Addr) (fp : List Addr) (tn : Nat → Heap → Prop) (J : It) (H' : Hp), itv = .ref it ∧ Inv X pins σ H' s2 ∧ Turn X.prog X.w X.K tg J fp it tn ∧ tn 0 s2.heap ∧ (∀ b ∈ fp, FpOk X pins H' b) ∧ R J H'
noncomputable def PI (X : Cx) (tg iter : Expr) (wi : TI) : Prop :=
  ∀ (pins : List (Addr × Obj)) (s : Shared) (σ : St) (H : Hp) (R : It → Hp → Prop), Inv X pins σ H s → wi σ H R →
    wpAny (model X.prog X.w) X.A (eval iter X.env) (fun v s1 => wpAny (model X.prog X.w) X.A (pyIter v) (PIE X pins σ tg R) X.xe s1) X.xe s

/-- the step ahead of the store is nothing for an iterator that keeps no tuple -/
theorem go_of {M : Model} {A : Around} {E : Value → Shared → Prop} {s : Shared} {tg : Expr} {it : Addr} {u : Value} {o : Obj} {n : String} {vs : Array Value} {Q : Unit → Shared → Prop} (ho : s.heap.get? it = some o) (hc : o.cls = .type n) (hd : o.data = .fields vs)
    (hn : ["enumerate", "zip", "dict_itemiterator", "dict_reverseitemiterator", "odict_iterator", "itertools.zip_longest", "itertools.pairwise"].contains n = false) (hQ : Q () s) : wpAny M A (letOwnedTupleGo tg (.ref it) u) Q E s := by
  unfold letOwnedTupleGo
  cases tg <;> first
    | exact wpAny_pure hQ
    | (cases u <;> first
        | exact wpAny_pure hQ
        | (refine wpAny_bind (wpAny_load ho ?_)
           rw [hc, hd]
           show wpAny M A (if (["enumerate", "zip", "dict_itemiterator", "dict_reverseitemiterator", "odict_iterator", "itertools.zip_longest", "itertools.pairwise"].contains n && vs[0]? == some (rawInt _)) = true then _ else _) Q E s
           rw [if_neg (by intro h; rw [hn, Bool.false_and] at h; cases h)]
           exact wpAny_pure hQ))

/-- the list at a, as it stands at each turn (a loop may append to it) -/
noncomputable def Itl (K : PySem.W.Frag) (a : Addr) : It :=
  ⟨fun i H => ∃ xs x, SqL K H a xs ∧ xs[i]? = some x, fun i H x H' => H' = H ∧ ∀ xs, SqL K H a xs → xs[i]? = some x, fun i H => ∃ xs, SqL K H a xs ∧ xs.length ≤ i⟩
/-- lo, lo + 1, .. (n of them) -/
noncomputable def Itr (lo : Int) (n : Nat) : It := ⟨fun i _ => i < n, fun i H x H' => H' = H ∧ x = .int (lo + i), fun i _ => n ≤ i⟩
theorem turn_list {P : Program} {w : World} {K : PySem.W.Frag} {tg : Expr} (a it : Addr) : Turn P w K tg (Itl K a) [it] it (fun i h => h.IsListIter it a i) where
  mem := by simp
  obj := fun i h st b hb => by
    have e : b = it := by simpa using hb
    subst e
    obtain ⟨o, e, c, d⟩ := st
    exact ⟨o, e, fun v z => by rw [d] at z; cases z⟩
  keep := fun i h h' st k => st.at fun o e => k it (by simp) o e
  item := by
    intro X hP hw hK hc i pins s σ H E I hf st hg
    subst hP hw hK
    obtain ⟨xs, x, hq, hx⟩ := hg
    obtain ⟨its, rv, p, hz⟩ := I.list hq
    obtain ⟨u, hu, ru⟩ := rv.get hx
    obtain ⟨f0, f1, f2, f3, f4, f5⟩ := hf it (by simp)
    refine wpAny_pyNext_list_item st p.isList (x := u) (by simpa using hu) fun h' st' sb => ?_
    have I1 : Inv X pins σ H { s with heap := h' } := I.turned (t' := s.toks) (fun b o hb e => (sb.2 b hb).trans e) f0 f1 f3 f4 f5
    obtain ⟨o, e, c, d⟩ := id st'
    exact ⟨u, rfl, go_of (s := { s with heap := h' }) e c d (by decide) ⟨x, H, I1, ru, ⟨rfl, fun ys hy => by rw [I.list_inj hy hq]; exact hx⟩, st', fun b hb => (hf b hb).1⟩⟩
  done := by
    intro X hP hw hK hc i pins s σ H E I hf st hg
    subst hP hw hK
    obtain ⟨xs, hq, hx⟩ := hg
    obtain ⟨its, rv, p, hz⟩ := I.list hq
    obtain ⟨f0, f1, f2, f3, f4, f5⟩ := hf it (by simp)
    have hl := rv.length
    exact wpAny_pyNext_list_end (I.ok.hd hc) st p.isList (by simp; omega) fun h' eb => ⟨rfl, I.turned (t' := s.toks) (fun b o hb e => eb b o hb e) f0 f1 f3 f4 f5⟩
  self := fun _ _ _ _ _ st h => wpAny_pyIter_listiter st h
theorem turn_range {P : Program} {w : World} {K : PySem.W.Frag} {tg : Expr} (it : Addr) (lo : Int) (n : Nat) : Turn P w K tg (Itr lo n) [it] it (fun i h => IsRangeIter h it (lo + (i : Nat) * 1) ((n : Int) - (i : Nat)) 1) where
  mem := by simp
  obj := fun i h st b hb => by
    have e : b = it := by simpa using hb
    subst e
    exact ⟨_, st, fun v z => by
      have z' : Data.fields _ = Data.cell v := z
      cases z'⟩
  keep := fun i h h' st k => k it (by simp) _ st
  item := by
    intro X hP hw hK hc i pins s σ H E I hf st hg
    subst hP hw hK
    obtain ⟨f0, f1, f2, f3, f4, f5⟩ := hf it (by simp)
    have W := Walks.range (prog := X.prog) (w := X.w) (I.ok.hd hc) it lo 1 n
    refine W.item i s _ _ hg st fun v h' tk hv st' kk => ?_
    obtain ⟨t, rfl⟩ := hv
    have I1 : Inv X pins σ H { s with heap := h', toks := tk } := I.turned (fun b o hb e => kk b o (by simpa using hb) e) f0 f1 f3 f4 f5
    refine ⟨_, rfl, go_of (s := { s with heap := h', toks := tk }) (n := "range_iterator") st' rfl rfl (by decide) ⟨.int (lo + i), H, I1, ⟨t, ?_⟩, ⟨rfl, rfl⟩, st', fun b hb => (hf b hb).1⟩⟩
    rw [Int.mul_one]
  done := by
    intro X hP hw hK hc i pins s σ H E I hf st hg
    subst hP hw hK
    obtain ⟨f0, f1, f2, f3, f4, f5⟩ := hf it (by simp)
    exact wpAny_pyNext_range_end (I.ok.hd hc) st (by have : n ≤ i := hg; omega) fun h' eb => ⟨rfl, I.turned (t' := s.toks) (fun b o hb e => eb b o hb e) f0 f1 f3 f4 f5⟩
  self := fun _ _ _ _ _ st h => wpAny_pyIter_rangeiter st h
end L2

namespace L2
open PySem PySem.Spec PyProof.Rows
section
variable {X : Cx} {tg : Expr}
noncomputable def iList (K : PySem.W.Frag) (tl : TE) : TI := fun σ H R => tl σ H fun x H1 => ∃ a, x = .ref a ∧ (∃ xs, SqL K H1 a xs) ∧ R (Itl K a) H1
theorem pi_list {l : Expr} {tl : TE} (hl : PE X l tl) : PI X tg l (iList X.K tl) := by
  intro pins s σ H R I h
  refine thn (hl pins s σ H _ I h) fun v s1 ⟨x, H1, I1, r1, q1⟩ => ?_
  obtain ⟨a, e, ⟨xs, hq⟩, q⟩ := q1
  subst e
  cases r1
  obtain ⟨its, rv, p, hz⟩ := I1.list hq
  refine wpAny_pyIter_list p.isList ?_
  refine ⟨s1.heap.objs.size, [s1.heap.objs.size], _, _, H1, rfl, I1.kept (t' := s1.toks) fun b o e => Heap.get?_push_of_some _ e, turn_list a _, ⟨_, Heap.get?_push_size _ rfl, rfl, rfl⟩, fun b hb => ?_, q⟩
  have e : b = s1.heap.objs.size := by simpa using hb
  subst e
  exact I1.fpOk (Nat.le_refl _) (I1.hok.fresh (Nat.le_refl _))
/-- a range object just made, walked -/
theorem range_it {pins : List (Addr × Obj)} {σ : St} {H : Hp} {s : Shared} {R : It → Hp → Prop} {E : Value → Shared → Prop} {lo hi : Int} {t u v : Tok} {tk : Nat} (I : Inv X pins σ H s) (h1 : -(2 ^ 62) ≤ lo) (h2 : lo < 2 ^ 62) (h3 : -(2 ^ 62) ≤ hi) (h4 : hi < 2 ^ 62)
    (q : R (Itr lo (hi - lo).toNat) H) : wpAny (model X.prog X.w) X.A (pyIter (.ref s.heap.objs.size)) (PIE X pins σ tg R) E { s with heap := s.heap.push { cls := .type "range", data := .fields #[.int lo t, .int hi u, .int 1 v] }, toks := tk } := by
  refine wpAny_pyIter_range (IsRange.new ..) (small_one h1 h2 h3 h4) ?_
  have I1 : Inv X pins σ H { s with heap := s.heap.push { cls := .type "range", data := .fields #[.int lo t, .int hi u, .int 1 v] }, toks := tk } := I.kept fun b o e => Heap.get?_push_of_some _ e
  refine ⟨(s.heap.push { cls := .type "range", data := .fields #[.int lo t, .int hi u, .int 1 v] }).objs.size, [(s.heap.push { cls := .type "range", data := .fields #[.int lo t, .int hi u, .int 1 v] }).objs.size], _, _, H, rfl,
    I1.kept (t' := tk) fun b o e => Heap.get?_push_of_some _ e, turn_range _ lo (hi - lo).toNat, ?_, fun b hb => ?_, q⟩
  · have e1 : lo + ((0 : Nat) : Int) * 1 = lo := by simp
    have e2 : (((hi - lo).toNat : Nat) : Int) - ((0 : Nat) : Int) = Builtin.Range.rangeSize lo hi 1 := by rw [rangeSize_one]; split <;> omega
    show IsRangeIter _ _ (lo + ((0 : Nat) : Int) * 1) ((((hi - lo).toNat : Nat) : Int) - ((0 : Nat) : Int)) 1
    rw [e1, e2]
    exact Heap.get?_push_size _ rfl
  · have e : b = (s.heap.push { cls := .type "range", data := .fields #[.int lo t, .int hi u, .int 1 v] }).objs.size := by simpa using hb
    subst e
    exact I1.fpOk (Nat.le_refl _) (I1.hok.fresh (Nat.le_refl _))
noncomputable def iRng1 (ta : TA) : TI := fun σ H R => ta σ H fun vs H1 => ∃ j : Int, vs = [.int j] ∧ -(2 ^ 62) ≤ j ∧ j < 2 ^ 62 ∧ R (Itr 0 j.toNat) H1
theorem pi_range1 {a : Expr} {ta : TA} {p pos : Pos} (hg : Gl X "range") (hm : X.mg "range" = none) (ha : PA X [a] ta) (hs : starEach [a] X.env = [(false, eval a X.env)] := by rfl) : PI X tg (.Call (.Name "range" p) [a] [] pos) (iRng1 ta) := by
  intro pins s σ H R I h
  refine Call_ (ld_blt I hg hm boot_range (PyProof.Rows.callWith_type1 (thn (ha pos pins s σ H _ I h) fun us s1 ⟨vs, H1, I1, r1, q1⟩ => ?_) hs rfl))
  obtain ⟨j, e, q1, q2, q⟩ := q1
  subst e
  cases r1 with
  | cons r rr =>
    cases rr
    obtain ⟨t, rfl⟩ := r
    exact call_range_1 (range_it I1 (by omega) (by omega) q1 q2 (by simpa using q))
/-! ### for -/
/-- W: the invariant by the turn and a measure; N: what the body is to reach -/
noncomputable def tFor (wi : TI) (g : TG) (tb : TS) : TS := fun D σ H => wi σ H fun J H1 => ∃ W : Nat → Nat → St → Hp → Prop, (∃ m, W 0 m σ H1) ∧ ∀ i m σ H, W i m σ H →
  (J.stop i H ∧ D.nx σ H) ∨ (J.go i H ∧ ∃ N : St → Hp → Prop, (∀ σ' H', N σ' H' → ∃ m', m' < m ∧ W (i + 1) m' σ' H') ∧ ∀ x H', J.yld i H x H' → g x σ H' fun σ2 H2 => tb { D with nx := N, ct := N, bk := D.nx } σ2 H2)
/-- the records at fp as they stand -/
noncomputable def pinsAt (fp : List Addr) (h : Heap) : List (Addr × Obj) := fp.filterMap fun b => (h.get? b).map fun o => (b, o)
theorem mem_pinsAt {fp : List Addr} {h : Heap} {b : Addr} {o : Obj} (hb : b ∈ fp) (e : h.get? b = some o) : (b, o) ∈ pinsAt fp h := List.mem_filterMap.mpr ⟨b, hb, by rw [e]; rfl⟩
theorem of_pinsAt {fp : List Addr} {h : Heap} {p : Addr × Obj} (hp : p ∈ pinsAt fp h) : p.1 ∈ fp ∧ h.get? p.1 = some p.2 := by
  obtain ⟨b, hb, e⟩ := List.mem_filterMap.mp hp
  cases q : h.get? b with
  | none => rw [q] at e; cases e
  | some o =>
    rw [q] at e
    have e' : (b, o) = p := Option.some.inj e
    subst e'
    exact ⟨hb, q⟩
theorem Inv.pinned {pins : List (Addr × Obj)} {σ : St} {H : Hp} {s : Shared} {fp : List Addr} (I : Inv X pins σ H s) (hf : ∀ b ∈ fp, FpOk X pins H b) (ho : ∀ b ∈ fp, ∃ o, s.heap.get? b = some o ∧ ∀ v, o.data ≠ .cell v) : Inv X (pins ++ pinsAt fp s.heap) σ H s :=
  I.pins_of fun p hp => (List.mem_append.mp hp).elim (fun z => I.pin p (List.mem_append_right _ z)) fun z => by
    obtain ⟨hb, e⟩ := of_pinsAt z
    obtain ⟨f0, f1, f2, _⟩ := hf p.1 hb
    obtain ⟨o, e', d⟩ := ho p.1 hb
    rw [e] at e'; cases e'
    exact ⟨e, f0, f1, f2, d⟩
theorem Inv.unpinned {pins pl : List (Addr × Obj)} {σ : St} {H : Hp} {s : Shared} (I : Inv X (pins ++ pl) σ H s) : Inv X pins σ H s := I.pins_of fun p hp => I.pin p (List.mem_append_right _ (List.mem_append_left _ hp))
theorem ps_for {iter : Expr} {body : List Stmt} {wi : TI} {g : TG} {tb : TS} {pos : Pos} (hp : PassesOwn (model X.prog X.w) X.A X.env X.xe) (hc : X.calm = true) (hi : PI X tg iter wi) (hg : PG X tg g) (hb : PSs X body tb)
    (hs : ∀ x, foldedSetIterable iter X.env x = pure x := by intro _; rfl) : PS X (.For tg iter body [] pos) (tFor wi g tb) := by
  intro pins s σ H D I h
  refine wpAny_For (thn (hi pins s σ H _ I h) fun v s1 h1 => thn h1 fun itv s2 h2 => ?_) hs
  obtain ⟨it, fp, tn, J, H2, e, I2, T, st2, f2, W, ⟨m0, w0⟩, turn⟩ := h2
  subst e
  -- what stays true of the iterator's objects through the loop
  have stat : ∀ {H' : Hp}, (∀ b ∈ fp, H' b = none) → ∀ b ∈ fp, FpOk X pins H' b := fun hn b hb => ⟨hn b hb, (f2 b hb).2⟩
  refine codeAny_forLoop_any (fun n s' => ∃ i σ' H', Inv X pins σ' H' s' ∧ tn i s'.heap ∧ (∀ b ∈ fp, H' b = none) ∧ W i n σ' H') ?_ m0 ⟨0, σ, H2, I2, st2, fun b hb => (f2 b hb).1, w0⟩
  rintro n s3 ⟨i, σ3, H3, I3, st3, fr3, w3⟩
  rcases turn i n σ3 H3 w3 with ⟨stop, qn⟩ | ⟨go, N, hN, step⟩
  · refine wpAny_passesOwn hp (thn (T.done X rfl rfl rfl hc i pins s3 σ3 H3 X.xe I3 (stat fr3) st3 stop) fun r s4 ⟨hr, I4⟩ => ?_)
    subst hr
    exact wpAny_execs_nil ⟨σ3, H3, I4, qn⟩
  · refine wpAny_passesOwn hp (thn (T.item X rfl rfl rfl hc i pins s3 σ3 H3 X.xe I3 (stat fr3) st3 go) fun r s4 ⟨u, hr, h4⟩ => ?_)
    subst hr
    refine wpAny_passesOwn hp (thn h4 fun _ s5 ⟨x, H5, I5, r5, y5, st5, fr5⟩ => ?_)
    have I5' := I5.pinned (stat fr5) (T.obj _ _ st5)
    refine wpAny_passesOwn hp (thn (hg _ s5 σ3 H5 x u _ I5' r5 (step x H5 y5)) fun _ s6 ⟨σ6, H6, I6, q6⟩ => ?_)
    refine wpAny_passesOwn hp (thn (hb _ s6 σ6 H6 _ I6 q6) fun f s7 q7 => ?_)
    have again : ∀ {σ7 : St} {H7 : Hp}, Inv X (pins ++ pinsAt fp s5.heap) σ7 H7 s7 → N σ7 H7 → ∃ m, m < n ∧ ∃ i σ' H', Inv X pins σ' H' s7 ∧ tn i s7.heap ∧ (∀ b ∈ fp, H' b = none) ∧ W i m σ' H' := fun {σ7 H7} I7 n7 => by
      obtain ⟨m', hm, w7⟩ := hN σ7 H7 n7
      refine ⟨m', hm, i + 1, σ7, H7, I7.unpinned, T.keep _ _ _ st5 fun b hb o e => (I7.pin (b, o) (List.mem_append_right _ (List.mem_append_right _ (mem_pinsAt hb e)))).1, fun b hb => ?_, w7⟩
      obtain ⟨o, e, d⟩ := T.obj _ _ st5 b hb
      exact (I7.pin (b, o) (List.mem_append_right _ (List.mem_append_right _ (mem_pinsAt hb e)))).2.1
    cases f with
    | next => obtain ⟨σ7, H7, I7, n7⟩ := q7; exact again I7 n7
    | cont => obtain ⟨σ7, H7, I7, n7⟩ := q7; exact again I7 n7
    | brk => obtain ⟨σ7, H7, I7, q7⟩ := q7; exact ⟨σ7, H7, I7.unpinned, q7⟩
    | ret v => obtain ⟨x7, σ7, H7, I7, r7, q7⟩ := q7; exact ⟨x7, σ7, H7, I7.unpinned, r7, q7⟩
end

/-! ### the forms one uses -/
/-- over a list that the body leaves as it is -/
theorem for_list {K : PySem.W.Frag} {a : Addr} {xs : List V} {g : TG} {tb : TS} {D : Ends} {σ : St} {H : Hp} (Pv : Nat → St → Hp → Prop) (h0 : Pv 0 σ H) (hl : ∀ i σ H, i ≤ xs.length → Pv i σ H → SqL K H a xs)
    (hs : ∀ i x σ H, xs[i]? = some x → Pv i σ H → g x σ H fun σ2 H2 => tb { D with nx := Pv (i + 1), ct := Pv (i + 1), bk := D.nx } σ2 H2) (hd : ∀ σ H, Pv xs.length σ H → D.nx σ H) :
    ∃ W : Nat → Nat → St → Hp → Prop, (∃ m, W 0 m σ H) ∧ ∀ i m σ H, W i m σ H →
      ((Itl K a).stop i H ∧ D.nx σ H) ∨ ((Itl K a).go i H ∧ ∃ N : St → Hp → Prop, (∀ σ' H', N σ' H' → ∃ m', m' < m ∧ W (i + 1) m' σ' H') ∧ ∀ x H', (Itl K a).yld i H x H' → g x σ H' fun σ2 H2 => tb { D with nx := N, ct := N, bk := D.nx } σ2 H2) := by
  refine ⟨fun i m σ H => m = xs.length - i ∧ i ≤ xs.length ∧ Pv i σ H, ⟨xs.length, by simp, Nat.zero_le _, h0⟩, ?_⟩
  rintro i m σ H ⟨rfl, hi, p⟩
  have q := hl i σ H hi p
  by_cases hlt : i < xs.length
  · refine .inr ⟨⟨xs, xs[i], q, by simp [hlt]⟩, Pv (i + 1), fun σ' H' p' => ⟨xs.length - (i + 1), by omega, rfl, hlt, p'⟩, fun x H' y => ?_⟩
    obtain ⟨e, y⟩ := y
    subst e
    exact hs i x σ _ (y xs q) p
  · have e : i = xs.length := by omega
    subst e
    exact .inl ⟨⟨xs, q, Nat.le_refl _⟩, hd σ H p⟩
theorem for_range {lo : Int} {n : Nat} {g : TG} {tb : TS} {D : Ends} {σ : St} {H : Hp} (Pv : Nat → St → Hp → Prop) (h0 : Pv 0 σ H)
    (hs : ∀ i σ H, i < n → Pv i σ H → g (.int (lo + i)) σ H fun σ2 H2 => tb { D with nx := Pv (i + 1), ct := Pv (i + 1), bk := D.nx } σ2 H2) (hd : ∀ σ H, Pv n σ H → D.nx σ H) :
    ∃ W : Nat → Nat → St → Hp → Prop, (∃ m, W 0 m σ H) ∧ ∀ i m σ H, W i m σ H →
      ((Itr lo n).stop i H ∧ D.nx σ H) ∨ ((Itr lo n).go i H ∧ ∃ N : St → Hp → Prop, (∀ σ' H', N σ' H' → ∃ m', m' < m ∧ W (i + 1) m' σ' H') ∧ ∀ x H', (Itr lo n).yld i H x H' → g x σ H' fun σ2 H2 => tb { D with nx := N, ct := N, bk := D.nx } σ2 H2) := by
  refine ⟨fun i m σ H => m = n - i ∧ i ≤ n ∧ Pv i σ H, ⟨n, by simp, Nat.zero_le _, h0⟩, ?_⟩
  rintro i m σ H ⟨rfl, hi, p⟩
  by_cases hlt : i < n
  · refine .inr ⟨hlt, Pv (i + 1), fun σ' H' p' => ⟨n - (i + 1), by omega, rfl, hlt, p'⟩, fun x H' y => ?_⟩
    obtain ⟨e, y⟩ := y
    subst e y
    exact hs i σ _ hlt p
  · have e : i = n := by omega
    subst e
    exact .inl ⟨Nat.le_refl _, hd σ H p⟩
end L2

namespace L2
open PySem PySem.Spec PyProof.Rows

noncomputable abbrev R2 := V → V → Hp → VK → Prop
/-- a two-place operation on values: f is binaryOp op, inplaceOp op or compareOp op -/
noncomputable def OpR (X : Cx) (f : Value → Value → Sem Value) (r : R2) : Prop :=
  ∀ (pins : List (Addr × Obj)) (s : Shared) (σ : St) (H : Hp) (x y : V) (v u : Value) (Q : VK), Inv X pins σ H s → RelV x v → RelV y u → r x y H Q →
    wpAny (model X.prog X.w) X.A (f v u) (EP X pins σ Q) X.xe s
/-- a one-place operation -/
noncomputable def UnR (X : Cx) (f : Value → Sem Value) (r : V → Hp → VK → Prop) : Prop :=
  ∀ (pins : List (Addr × Obj)) (s : Shared) (σ : St) (H : Hp) (x : V) (v : Value) (Q : VK), Inv X pins σ H s → RelV x v → r x H Q →
    wpAny (model X.prog X.w) X.A (f v) (EP X pins σ Q) X.xe s
/-- a call of a value that is known (a builtin, a type) with values -/
noncomputable def CallR (X : Cx) (f : Value) (r : List V → Hp → VK → Prop) : Prop :=
  ∀ (pins : List (Addr × Obj)) (s : Shared) (σ : St) (H : Hp) (xs : List V) (us : List Value) (Q : VK), Inv X pins σ H s → Vals xs us → r xs H Q →
    wpAny (model X.prog X.w) X.A (call f us) (EP X pins σ Q) X.xe s
noncomputable def tOp (r : R2) (ta tb : TE) : TE := fun σ H Q => ta σ H fun x H1 => tb σ H1 fun y H2 => r x y H2 Q
noncomputable def tUn (r : V → Hp → VK → Prop) (ta : TE) : TE := fun σ H Q => ta σ H fun x H1 => r x H1 Q
/-- ints in, under C, and a value out -/
noncomputable def rI (C : Int → Int → Prop) (g : Int → Int → V) : R2 := fun x y H Q => ∃ i j, x = .int i ∧ y = .int j ∧ C i j ∧ Q (g i j) H
noncomputable def rI0 (g : Int → Int → V) : R2 := fun x y H Q => ∃ i j, x = .int i ∧ y = .int j ∧ Q (g i j) H
noncomputable def rU (g : Int → V) : V → Hp → VK → Prop := fun x H Q => ∃ i, x = .int i ∧ Q (g i) H

section
variable {X : Cx} {a b c : Expr} {ta tb tc : TE} {pos : Pos}

theorem binT (ha : PE X a ta) (hb : PE X b tb) {pins : List (Addr × Obj)} {s : Shared} {σ : St} {H : Hp} {R : V → V → Hp → Prop} (I : Inv X pins σ H s)
    (h : ta σ H fun x H1 => tb σ H1 fun y H2 => R x y H2) {Q : Value → Shared → Prop} {f : Value → Value → Sem Value}
    (hf : ∀ v u s2 x y H2, Inv X pins σ H2 s2 → RelV x v → RelV y u → R x y H2 → wpAny (model X.prog X.w) X.A (f v u) Q X.xe s2) :
    wpAny (model X.prog X.w) X.A (eval a X.env) (fun v s₁ => wpAny (model X.prog X.w) X.A (eval b X.env) (fun u s₂ => wpAny (model X.prog X.w) X.A (f v u) Q X.xe s₂) X.xe s₁) X.xe s := by
  refine thn (ha pins s σ H _ I h) fun v s1 ⟨x, H1, I1, r1, q1⟩ => ?_
  refine thn (hb pins s1 σ H1 _ I1 q1) fun u s2 ⟨y, H2, I2, r2, q2⟩ => ?_
  exact hf v u s2 x y H2 I2 r1 r2 q2

theorem pe_op {op : Operator} {r : R2} (ho : OpR X (binaryOp op) r) (ha : PE X a ta) (hb : PE X b tb) : PE X (.BinOp a op b pos) (tOp r ta tb) := by
  intro pins s σ H Q I h
  exact wpAny_BinOp (binT ha hb I h fun v u s2 x y H2 I2 rx ry q => ho pins s2 σ H2 x y v u Q I2 rx ry q)
theorem pe_un {op : UnaryOp} {r : V → Hp → VK → Prop} (ho : UnR X (unaryOp op) r) (ha : PE X a ta) : PE X (.UnaryOp op a pos) (tUn r ta) := by
  intro pins s σ H Q I h
  exact UnaryOp_ (thn (ha pins s σ H _ I h) fun v s1 ⟨x, H1, I1, r1, q1⟩ => ho pins s1 σ H1 x v Q I1 r1 q1)
/-! ### ints -/
theorem opI {f : Value → Value → Sem Value} {C : Int → Int → Prop} {g : Int → Int → Int}
    (rule : ∀ (i j : Int) (t u : Tok) (s : Shared) (Q : Value → Shared → Prop) (E : Value → Shared → Prop), C i j → Q (.int (g i j) s.toks) { s with toks := s.toks + 1 } → wpAny (model X.prog X.w) X.A (f (.int i t) (.int j u)) Q E s) :
    OpR X f (rI C fun i j => .int (g i j)) := by
  intro pins s σ H x y v u Q I rx ry h
  obtain ⟨i, j, rfl, rfl, hc, q⟩ := h
  obtain ⟨t, rfl⟩ := rx
  obtain ⟨t', rfl⟩ := ry
  exact rule i j t t' s _ _ hc ⟨.int (g i j), H, I.tok _, ⟨_, rfl⟩, q⟩
theorem opI0 {f : Value → Value → Sem Value} {g : Int → Int → Int}
    (rule : ∀ (i j : Int) (t u : Tok) (s : Shared) (Q : Value → Shared → Prop) (E : Value → Shared → Prop), Q (.int (g i j) s.toks) { s with toks := s.toks + 1 } → wpAny (model X.prog X.w) X.A (f (.int i t) (.int j u)) Q E s) :
    OpR X f (rI0 fun i j => .int (g i j)) := by
  intro pins s σ H x y v u Q I rx ry h
  obtain ⟨i, j, rfl, rfl, q⟩ := h
  obtain ⟨t, rfl⟩ := rx
  obtain ⟨t', rfl⟩ := ry
  exact rule i j t t' s _ _ ⟨.int (g i j), H, I.tok _, ⟨_, rfl⟩, q⟩
theorem opB0 {f : Value → Value → Sem Value} {g : Int → Int → Bool}
    (rule : ∀ (i j : Int) (t u : Tok) (s : Shared) (Q : Value → Shared → Prop) (E : Value → Shared → Prop), Q (.bool (g i j)) s → wpAny (model X.prog X.w) X.A (f (.int i t) (.int j u)) Q E s) :
    OpR X f (rI0 fun i j => .bl (g i j)) := by
  intro pins s σ H x y v u Q I rx ry h
  obtain ⟨i, j, rfl, rfl, q⟩ := h
  obtain ⟨t, rfl⟩ := rx
  obtain ⟨t', rfl⟩ := ry
  exact rule i j t t' s _ _ ⟨.bl (g i j), H, I, rfl, q⟩

noncomputable def CPow (i j : Int) : Prop := 0 ≤ j ∧ j ≤ 1000000 ∧ i.natAbs < 2 ^ 64
noncomputable def CMul (i j : Int) : Prop := (-(2 ^ 64) < i ∧ i < 2 ^ 64) ∨ (-(2 ^ 64) < j ∧ j < 2 ^ 64)
theorem CMul.ok {i j : Int} (h : CMul i j) : IntMulOk i j := by
  rcases h with ⟨h1, h2⟩ | ⟨h1, h2⟩
  · exact .of_left (intBits_le_64 h1 h2)
  · exact .of_right (intBits_le_64 h1 h2)
theorem op_add : OpR X (binaryOp .Add) (rI0 fun i j => .int (i + j)) := opI0 fun _ _ _ _ _ _ _ q => add_int q
theorem op_sub : OpR X (binaryOp .Sub) (rI0 fun i j => .int (i - j)) := opI0 fun _ _ _ _ _ _ _ q => sub_int q
theorem op_mul : OpR X (binaryOp .Mult) (rI CMul fun i j => .int (i * j)) := opI fun _ _ _ _ _ _ _ hc q => mul_int q hc.ok
/-- % by a positive divisor of any size -/
theorem op_mod : OpR X (binaryOp .Mod) (rI (fun _ j => 0 < j) fun i j => .int (i % j)) := opI fun i j _ _ _ _ _ hc q => by
  have h1 : (0 : Int) < j := hc
  exact mod_int' (by omega) (by rw [Int.fmod_eq_emod_of_nonneg i (by omega)]; exact q)
theorem op_pow : OpR X (binaryOp .Pow) (rI CPow fun i j => .int (i ^ j.toNat)) := opI fun _ _ _ _ _ _ _ hc q => pow_int_small hc.1 hc.2.1 hc.2.2 q
theorem unI {f : Value → Sem Value} {g : Int → Int}
    (rule : ∀ (i : Int) (t : Tok) (s : Shared) (Q : Value → Shared → Prop) (E : Value → Shared → Prop), Q (.int (g i) s.toks) { s with toks := s.toks + 1 } → wpAny (model X.prog X.w) X.A (f (.int i t)) Q E s) :
    UnR X f (rU fun i => .int (g i)) := by
  intro pins s σ H x v Q I rx h
  obtain ⟨i, rfl, q⟩ := h
  obtain ⟨t, rfl⟩ := rx
  exact rule i t s _ _ ⟨.int (g i), H, I.tok _, ⟨_, rfl⟩, q⟩
theorem un_neg : UnR X (unaryOp .USub) (rU fun i => .int (-i)) := unI fun _ _ _ _ _ q => neg_int q
/-! ### bools among ints: n += (a < b) -/
end

/-! ### comparisons -/
/-- the scalars that == tells apart as data does -/
noncomputable def scal : V → V → Bool
  | .non, .non => true | .non, .int _ => true | .int _, .non => true | .non, .bl _ => true | .bl _, .non => true | .non, .str _ => true | .str _, .non => true
  | .int _, .int _ => true | .bl _, .bl _ => true | .str _, .str _ => true | .byt _, .byt _ => true
  | .int _, .str _ => true | .str _, .int _ => true | .bl _, .str _ => true | .str _, .bl _ => true
  | _, _ => false
noncomputable def rEq : R2 := fun x y H Q => scal x y = true ∧ Q (.bl (decide (x = y))) H
noncomputable def rNe : R2 := fun x y H Q => scal x y = true ∧ Q (.bl (!decide (x = y))) H

theorem dec_int {i j : Int} : decide (V.int i = V.int j) = (i == j) := by
  rw [Bool.eq_iff_iff]
  simp
theorem dec_bl {i j : Bool} : decide (V.bl i = V.bl j) = (i == j) := by
  rw [Bool.eq_iff_iff]
  simp
theorem dec_str {i j : Str} : decide (V.str i = V.str j) = (i == j) := by
  rw [Bool.eq_iff_iff]
  simp
theorem dec_byt {i j : Array UInt8} : decide (V.byt i = V.byt j) = (i.toList == j.toList) := by
  rw [Bool.eq_iff_iff]
  cases i
  cases j
  simp

section
variable {X : Cx} {a b c : Expr} {ta tb tc : TE} {pos : Pos}
theorem fin_bl {pins : List (Addr × Obj)} {σ : St} {H : Hp} {s : Shared} {Q : VK} {k k' : Bool} (I : Inv X pins σ H s) (q : Q (.bl k) H) (e : k = k') : EP X pins σ Q (.bool k') s := by
  subst e
  exact ⟨.bl k, H, I, rfl, q⟩
theorem op_eq : OpR X (compareOp .Eq) rEq := by
  intro pins s σ H x y v u Q I rx ry h
  obtain ⟨hs, q⟩ := h
  cases x with
  | non =>
    cases rx
    cases y with
    | non => cases ry; exact PySem.EqNone.eq_none_none (fin_bl I q (by simp))
    | bl j => cases ry; exact PySem.EqNone.eq_none_bool (fin_bl I q (by simp))
    | int j => obtain ⟨t', rfl⟩ := ry; exact PySem.EqNone.eq_none_int (fin_bl I q (by simp))
    | str j => obtain ⟨t', rfl⟩ := ry; exact PySem.EqNone.eq_none_str (fin_bl I q (by simp))
    | _ => exact absurd (show false = true from hs) Bool.false_ne_true
  | bl i =>
    cases rx
    cases y with
    | non => cases ry; exact PySem.EqNone.eq_bool_none (fin_bl I q (by simp))
    | bl j => cases ry; exact eq_bool (fin_bl I q dec_bl)
    | str j => obtain ⟨t', rfl⟩ := ry; exact PySem.EqMixed.eq_bool_str (fin_bl I q (by simp))
    | _ => exact absurd (show false = true from hs) Bool.false_ne_true
  | int i =>
    obtain ⟨t, rfl⟩ := rx
    cases y with
    | non => cases ry; exact PySem.EqNone.eq_int_none (fin_bl I q (by simp))
    | int j => obtain ⟨t', rfl⟩ := ry; exact eq_int (fin_bl I q dec_int)
    | str j => obtain ⟨t', rfl⟩ := ry; exact PySem.EqMixed.eq_int_str (fin_bl I q (by simp))
    | _ => exact absurd (show false = true from hs) Bool.false_ne_true
  | str i =>
    obtain ⟨t, rfl⟩ := rx
    cases y with
    | non => cases ry; exact PySem.EqNone.eq_str_none (fin_bl I q (by simp))
    | bl j => cases ry; exact PySem.EqMixed.eq_str_bool (fin_bl I q (by simp))
    | int j => obtain ⟨t', rfl⟩ := ry; exact PySem.EqMixed.eq_str_int (fin_bl I q (by simp))
    | str j => obtain ⟨t', rfl⟩ := ry; exact eq_str (fin_bl I q dec_str)
    | _ => exact absurd (show false = true from hs) Bool.false_ne_true
  | byt i =>
    obtain ⟨t, rfl⟩ := rx
    cases y with
    | byt j => obtain ⟨t', rfl⟩ := ry; exact PySem.W.eq_bytes (fin_bl I q dec_byt)
    | _ => exact absurd (show false = true from hs) Bool.false_ne_true
  | _ => cases y <;> exact absurd (show false = true from hs) Bool.false_ne_true
theorem op_ne : OpR X (compareOp .NotEq) rNe := by
  intro pins s σ H x y v u Q I rx ry h
  obtain ⟨hs, q⟩ := h
  cases x with
  | non =>
    cases rx
    cases y with
    | non => cases ry; exact PySem.EqNone.ne_none_none (fin_bl I q (by simp))
    | bl j => cases ry; exact PySem.EqNone.ne_none_bool (fin_bl I q (by simp))
    | int j => obtain ⟨t', rfl⟩ := ry; exact PySem.EqNone.ne_none_int (fin_bl I q (by simp))
    | str j => obtain ⟨t', rfl⟩ := ry; exact PySem.EqNone.ne_none_str (fin_bl I q (by simp))
    | _ => exact absurd (show false = true from hs) Bool.false_ne_true
  | bl i =>
    cases rx
    cases y with
    | non => cases ry; exact PySem.EqNone.ne_bool_none (fin_bl I q (by simp))
    | bl j => cases ry; exact ne_bool (fin_bl I q (congrArg not dec_bl))
    | str j => obtain ⟨t', rfl⟩ := ry; exact PySem.EqMixed.ne_bool_str (fin_bl I q (by simp))
    | _ => exact absurd (show false = true from hs) Bool.false_ne_true
  | int i =>
    obtain ⟨t, rfl⟩ := rx
    cases y with
    | non => cases ry; exact PySem.EqNone.ne_int_none (fin_bl I q (by simp))
    | int j => obtain ⟨t', rfl⟩ := ry; exact ne_int (fin_bl I q (congrArg not dec_int))
    | str j => obtain ⟨t', rfl⟩ := ry; exact PySem.EqMixed.ne_int_str (fin_bl I q (by simp))
    | _ => exact absurd (show false = true from hs) Bool.false_ne_true
  | str i =>
    obtain ⟨t, rfl⟩ := rx
    cases y with
    | non => cases ry; exact PySem.EqNone.ne_str_none (fin_bl I q (by simp))
    | bl j => cases ry; exact PySem.EqMixed.ne_str_bool (fin_bl I q (by simp))
    | int j => obtain ⟨t', rfl⟩ := ry; exact PySem.EqMixed.ne_str_int (fin_bl I q (by simp))
    | str j => obtain ⟨t', rfl⟩ := ry; exact ne_str (fin_bl I q (congrArg not dec_str))
    | _ => exact absurd (show false = true from hs) Bool.false_ne_true
  | byt i =>
    obtain ⟨t, rfl⟩ := rx
    cases y with
    | byt j => obtain ⟨t', rfl⟩ := ry; exact PySem.W.ne_bytes (fin_bl I q (congrArg not dec_byt))
    | _ => exact absurd (show false = true from hs) Bool.false_ne_true
  | _ => cases y <;> exact absurd (show false = true from hs) Bool.false_ne_true

theorem op_lt : OpR X (compareOp .Lt) (rI0 fun i j => .bl (decide (i < j))) := opB0 fun _ _ _ _ _ _ _ q => lt_int q
theorem op_gt : OpR X (compareOp .Gt) (rI0 fun i j => .bl (decide (j < i))) := opB0 fun _ _ _ _ _ _ _ q => gt_int q
theorem op_ge : OpR X (compareOp .GtE) (rI0 fun i j => .bl (decide (j ≤ i))) := opB0 fun _ _ _ _ _ _ _ q => ge_int q
theorem nomark (b : Expr) {op : CmpOp} (h : op ≠ .In := by decide) (h2 : op ≠ .NotIn := by decide) : behindInMarks op b = false := by
  have e1 : (op == CmpOp.In) = false := by cases op <;> first | rfl | exact absurd rfl h
  have e2 : (op == CmpOp.NotIn) = false := by cases op <;> first | rfl | exact absurd rfl h2
  cases b <;> simp [behindInMarks, e1, e2]
/-- a reading of a value as a test -/
noncomputable def tTest (t : TE) : TT := fun σ H Q => t σ H fun x H' => ∃ k, x = .bl k ∧ Q k H'
theorem pt_cmpR {op : CmpOp} {r : R2} (ho : OpR X (compareOp op) r) (ha : PE X a ta) (hb : PE X b tb) (hm : behindInMarks op b = false) : PT X (.Compare a [op] [b] pos) (tTest (tOp r ta tb)) := by
  intro pins s σ H Q I h
  refine wpAny_isTrue_Compare1 (thn (ha pins s σ H _ I h) fun v s1 ⟨x, H1, I1, r1, q1⟩ => thn (hb pins s1 σ H1 _ I1 q1) fun u s2 ⟨y, H2, I2, r2, q2⟩ =>
    thn (ho pins s2 σ H2 x y v u _ I2 r1 r2 q2) fun c s3 ⟨z, H3, I3, r3, k, e, q3⟩ => ?_) hm
  subst e
  cases r3
  exact wpAny_truthy_bool ⟨H3, I3, q3⟩
/-! ### truth -/
theorem line63 : (sizeLine : Nat) < 2 ^ 63 := by rw [sizeLine_eq]; decide
/-! ### strs and bytes -/
/-! ### scalar builtins, by CallR -/
theorem vals1 {x : V} {us : List Value} (r : Vals [x] us) : ∃ u, us = [u] ∧ RelV x u := by
  cases r with
  | cons r1 r2 => cases r2; exact ⟨_, rfl, r1⟩
theorem vals2 {x y : V} {us : List Value} (r : Vals [x, y] us) : ∃ u w', us = [u, w'] ∧ RelV x u ∧ RelV y w' := by
  cases r with
  | cons r1 r2 =>
    cases r2 with
    | cons r3 r4 => cases r4; exact ⟨_, _, rfl, r1, r3⟩
end
end L2

namespace L2
open PySem PySem.Spec PyProof.Rows

/-! ### an instance, its attributes a map -/
structure ObjM (h : Heap) (x dx C : Addr) (mA : Str → Option Value) : Prop where
  obj : h.get? x = some (PySem.W.instObj C dx)
  ns : h.Ns1 dx mA
  ne : dx ≠ x

theorem lookIn_ns {h : Heap} {dx : Addr} {mA : Str → Option Value} (n : h.Ns1 dx mA) : ∃ od, h.get? dx = some od ∧ ∀ name, PySem.W.lookIn name od = some (mA name) := by
  obtain ⟨o, es, ep, ho, hd, hk, _, hm⟩ := n
  refine ⟨o, ho, fun name => ?_⟩
  have e := hm name
  unfold nsFind findBy at e
  rw [← Array.find?_toList] at e
  unfold PySem.W.lookIn
  rw [hd]
  dsimp only
  split
  · rename_i y q
    rw [q] at e
    exact congrArg some e
  · rename_i q
    rw [q] at e
    have a : es.toList.any (·.refKey) = false := by
      rw [List.any_eq_false]
      intro y hy
      obtain ⟨z, t, hkey⟩ := hk y (Array.mem_toList_iff.mp hy)
      simp [DictEntry.refKey, hkey]
    have a' : ¬ es.toList.any (·.refKey) = true := by rw [a]; exact Bool.false_ne_true
    rw [if_neg a']
    exact congrArg some e

theorem ObjM.look {h : Heap} {x dx C : Addr} {mA : Str → Option Value} (I : ObjM h x dx C mA) : ∃ od, PySem.W.InstAt h x (PySem.W.instObj C dx) C (some od) ∧ ∀ name, PySem.W.lookIn name od = some (mA name) :=
  let ⟨od, ho, hl⟩ := lookIn_ns I.ns
  ⟨od, ⟨I.obj, rfl, rfl, ho⟩, hl⟩

section
variable {prog : Program} {w : World} {A : Around} {E : Value → Shared → Prop} {s : Shared} {K : PySem.W.Frag} {x dx C f : Addr} {mA : Str → Option Value} {name : Str} {v : Value}

theorem get_map {expr : Bool} {Q : Value → Shared → Prop} (X : K.In s.heap) (I : ObjM s.heap x dx C mA) (hg : PySem.W.plainGet K C name = true) (hh : PySem.W.hasDictIn K C = true)
    (ha : PySem.W.findIn K (.ref C) name = some none) (hv : mA name = some v) (hv' : PySem.W.handedIn v = true) (h : Q v { s with toks := s.toks + 1 }) :
    wpAny (model prog w) A (getAttr (.ref x) name expr) Q E s := by
  obtain ⟨od, J, hl⟩ := I.look
  exact PySem.W.get_value X J (PySem.W.plainGet_of hg).1 (PySem.W.findObj_own hh ha rfl (by rw [hl, hv])) hv' h

theorem get_meth {pl : Sem Bool} {Q : Value × List Value → Shared → Prop} (X : K.In s.heap) (I : ObjM s.heap x dx C mA) (hg : PySem.W.plainGet K C name = true)
    (hf : PySem.W.findIn K (.ref C) name = some (some (.ref f))) (ht : PySem.W.isFn K (.ref f) = true) (hv : mA name = none) (h : Q (.ref f, [.ref x]) s) :
    wpAny (model prog w) A (getMethod (.ref x) name pl) Q E s := by
  obtain ⟨od, J, hl⟩ := I.look
  exact PySem.W.method_fn X J (PySem.W.plainGet_of hg).1 (PySem.W.plainGet_of hg).2 hf (beq_iff_eq.mp ht) (by show (PySem.W.lookIn name od).map (·.isSome) = some false; rw [hl, hv]; rfl) h

theorem set_map {ns : List Str} {Q : Unit → Shared → Prop} (X : K.In s.heap) (I : ObjM s.heap x dx C mA)
    (hs : PySem.W.findIn K (.ref C) "__setattr__" = some (some (.builtin "object.__setattr__"))) (hp : PySem.W.plainOver K C = true) (ht : PySem.W.takerIn K C name = some none) (hh : PySem.W.hasDictIn K C = true)
    (hw : PySem.Within mA ns) (hsz : ns.length ≤ sizeLine)
    (h : ∀ h', ObjM h' x dx C (fun y => if y = name then some v else mA y) → Heap.SameBut dx s.heap h' → Q () { s with heap := h', toks := s.toks + 2 }) :
    wpAny (model prog w) A (setAttr (.ref x) name v) Q E s := by
  obtain ⟨od, J, hl⟩ := I.look
  refine PySem.W.set_plain X J hs (PySem.W.osa_open (s := { s with toks := s.toks + 1 }) (r := none) X J hp ht fun b => ?_)
  obtain ⟨cd, hc, hd'⟩ := PySem.W.any_some hh
  have hx : s.heap.get? x = some ⟨.ref C, some dx, .plain, #[]⟩ := I.obj
  refine wpAny_bind (wpAny_pure (wpAny_bind (wpAny_bind (wpAny_loadPart hx (wpAny_bind (PySem.W.Looks.here (s := { s with toks := s.toks + 1 }) (PySem.W.looks_clsIn X hc) ?_))))))
  rw [hd']
  refine wpAny_pure (a := some dx) (wpAny_bind (wpAny_pure (wpAny_bind ?_)))
  refine wpAny_nsSet1 (s := { s with toks := s.toks + 1 }) I.ns fun h' hn2 hs2 => ?_
  obtain ⟨oD, esD, epD, hoD, hdD, hcD⟩ := hn2.count (PySem.Within.cons name v hw)
  refine wpAny_bind (wpAny_lookBehind hoD (by rw [hdD]; exact pastItsLine_dict (Nat.le_trans hcD (by rw [List.length_cons]; omega))) ?_)
  exact wpAny_pure (h _ ⟨(hs2.2 _ (Ne.symm I.ne)).trans I.obj, hn2, I.ne⟩ hs2)

/-- C(..): the dict at the heap's end, the instance behind it; then its __init__ -/
theorem make_map {R : Result → Shared → Prop} {vs : List Value} {kw : List (Str × Value)} (X : K.In s.heap) (hm : PySem.W.makesIn K C = true)
    (hi : PySem.W.findIn K (.ref C) "__init__" = some (some (.ref f))) (hf : PySem.W.typeIn K (.ref f) = some (.type "function"))
    (h : codeAny (model prog w) (A.under (.builtin "type.__call__" ⟨.ref C :: vs, kw⟩)) (.call (.ref f) ⟨.ref (s.heap.objs.size + 1) :: vs, kw⟩) (PySem.W.InitBack (s.heap.objs.size + 1) R)
      { s with heap := (s.heap.push PySem.W.emptyDict).push (PySem.W.instObj C s.heap.objs.size) }) :
    codeAny (model prog w) A (.call (.ref C) ⟨vs, kw⟩) R s := by
  obtain ⟨hh, g, d, t, os⟩ := s
  exact PySem.W.make_core (PySem.W.makes_of X hm) (PySem.W.looks_findIn X hi) (fun self => PySem.W.bind_fn X self hf) (.inl rfl) h
end

/-! ### the attributes as a list of pairs -/
noncomputable def putF (f : Str) (v : V) : List (Str × V) → List (Str × V)
  | [] => [(f, v)]
  | (g, x) :: r => if g = f then (g, v) :: r else (g, x) :: putF f v r
theorem lookup_putF (f g : Str) (v : V) : ∀ fs : List (Str × V), (putF f v fs).lookup g = if g = f then some v else fs.lookup g
  | [] => by
    show List.lookup g [(f, v)] = _
    by_cases h : g = f
    · have hb : (g == f) = true := beq_iff_eq.mpr h
      simp only [List.lookup, hb, if_pos h]
    · have hb : (g == f) = false := beq_eq_false_iff_ne.mpr h
      simp only [List.lookup, hb, if_neg h]
  | (k, x) :: r => by
    have ih := lookup_putF f g v r
    rw [show putF f v ((k, x) :: r) = (if k = f then (k, v) :: r else (k, x) :: putF f v r) from rfl]
    by_cases hk : k = f
    · rw [if_pos hk]
      by_cases h : g = k
      · have hb : (g == k) = true := beq_iff_eq.mpr h
        simp only [List.lookup, hb, if_pos (h.trans hk)]
      · have hb : (g == k) = false := beq_eq_false_iff_ne.mpr h
        simp only [List.lookup, hb, if_neg (fun e : g = f => h (e.trans hk.symm))]
    · rw [if_neg hk]
      by_cases h : g = k
      · have hb : (g == k) = true := beq_iff_eq.mpr h
        simp only [List.lookup, hb, if_neg (fun e : g = f => hk (h.symm.trans e))]
      · have hb : (g == k) = false := beq_eq_false_iff_ne.mpr h
        simp only [List.lookup, hb]
        exact ih
theorem keys_putF (f : Str) (v : V) : ∀ fs : List (Str × V), f ∈ (putF f v fs).map (·.1) ∧ ∀ g, g ∈ fs.map (·.1) → g ∈ (putF f v fs).map (·.1)
  | [] => ⟨by simp [putF], fun g h => by simp at h⟩
  | (k, x) :: r => by
    obtain ⟨i1, i2⟩ := keys_putF f v r
    rw [show putF f v ((k, x) :: r) = (if k = f then (k, v) :: r else (k, x) :: putF f v r) from rfl]
    by_cases hk : k = f
    · rw [if_pos hk]
      subst hk
      exact ⟨by simp, fun g h => by simpa using h⟩
    · rw [if_neg hk]
      refine ⟨?_, fun g h => ?_⟩
      · rw [List.map_cons]
        exact List.mem_cons_of_mem _ i1
      · rw [List.map_cons] at h ⊢
        rcases List.mem_cons.mp h with e | e
        · exact List.mem_cons.mpr (.inl e)
        · exact List.mem_cons_of_mem _ (i2 g e)
theorem length_putF (f : Str) (v : V) : ∀ fs : List (Str × V), (putF f v fs).length ≤ fs.length + 1
  | [] => by simp [putF]
  | (k, x) :: r => by
    have ih := length_putF f v r
    rw [show putF f v ((k, x) :: r) = (if k = f then (k, v) :: r else (k, x) :: putF f v r) from rfl]
    by_cases hk : k = f
    · rw [if_pos hk, List.length_cons, List.length_cons]; omega
    · rw [if_neg hk, List.length_cons, List.length_cons]; omega

theorem RelO.some_of {v : V} {o : Option Value} (r : RelO (some v) o) : ∃ u, o = some u ∧ RelV v u := by
  cases o with
  | none => exact (show False from r).elim
  | some u => exact ⟨u, rfl, r⟩
theorem RelO.none_of {o : Option Value} (r : RelO none o) : o = none := by
  cases o with
  | none => rfl
  | some u => exact (show False from r).elim
theorem handed_of {v : V} {u : Value} (r : RelV v u) : PySem.W.handedIn u = true := by
  cases v with
  | non => cases (show u = Value.none from r); rfl
  | bl b => cases (show u = Value.bool b from r); rfl
  | int i => obtain ⟨t, e⟩ := (show ∃ t, u = Value.int i t from r); cases e; rfl
  | str x => obtain ⟨t, e⟩ := (show ∃ t, u = Value.str x t from r); cases e; rfl
  | byt b => obtain ⟨t, e⟩ := (show ∃ t, u = Value.bytes b t from r); cases e; rfl
  | flt b => obtain ⟨t, e⟩ := (show ∃ t, u = Value.float b t from r); cases e; rfl
  | ref a => cases (show u = Value.ref a from r); rfl
  | ty n => cases (show u = Value.type n from r); rfl

section
variable {P : Program} {w : World} {H H' : Hp} {h h' : Heap} {a C dx : Addr} {fs fs' : List (Str × V)}
theorem ins_get (hok : HOk P w H h) (e : H a = some (.ins C dx fs)) : ∃ mA, ObjM h a dx C mA ∧ (∀ f, RelO (fs.lookup f) (mA f)) ∧ PySem.Within mA (fs.map (·.1)) ∧ fs.length ≤ 1000 ∧ H dx = some (.own a) := by
  obtain ⟨d, z, ne, ob, mA, n, r, q⟩ := (show ObjOk P w H h a (.ins C dx fs) from hok a _ e)
  exact ⟨mA, ⟨ob, n, ne⟩, r, q, z, d⟩
end

/-! ### what of the text a class must have -/
structure Cls (K : PySem.W.Frag) (C : Addr) : Prop where
  pg : PySem.W.plainGet K C Str.empty = true
  hd : PySem.W.hasDictIn K C = true
  po : PySem.W.plainOver K C = true
  sa : PySem.W.findIn K (.ref C) "__setattr__" = some (some (.builtin "object.__setattr__"))
theorem Cls.get {K : PySem.W.Frag} {C : Addr} (c : Cls K C) (f : Str) : PySem.W.plainGet K C f = true := c.pg
/-- no class of it has the name -/
noncomputable def NoAttr (K : PySem.W.Frag) (C : Addr) (f : Str) : Prop := PySem.W.findIn K (.ref C) f = some none
theorem NoAttr.taker {K : PySem.W.Frag} {C : Addr} {f : Str} (n : NoAttr K C f) : PySem.W.takerIn K C f = some none := by
  unfold PySem.W.takerIn
  rw [show PySem.W.findIn K (.ref C) f = some none from n]
  rfl
/-- a method: a plain def of the class or of one above it -/
structure Meth (K : PySem.W.Frag) (C : Addr) (m : Str) (f : Addr) : Prop where
  at_ : PySem.W.findIn K (.ref C) m = some (some (.ref f))
  fn : PySem.W.isFn K (.ref f) = true
  kp : PySem.W.keepIn K (.ref f) = true

section
variable {X : Cx} {pins : List (Addr × Obj)} {σ : St} {H : Hp} {s : Shared} {a C dx : Addr} {fs : List (Str × V)} {f : Str} {v : V} {A : Around} {E : Value → Shared → Prop}

theorem getattr_ok {b : Bool} {Q : Value → Shared → Prop} (I : Inv X pins σ H s) (e : H a = some (.ins C dx fs)) (c : Cls X.K C) (n : NoAttr X.K C f) (l : fs.lookup f = some v)
    (h : ∀ u s', Inv X pins σ H s' → RelV v u → Q u s') : wpAny (model X.prog X.w) A (getAttr (.ref a) f b) Q E s := by
  obtain ⟨mA, O, r, _, _, _⟩ := ins_get I.hok e
  obtain ⟨u, hu, ru⟩ := RelO.some_of (v := v) (o := mA f) (by rw [← l]; exact r f)
  exact get_map I.kIn O (c.get f) c.hd n hu (handed_of ru) (h u _ (I.tok _) ru)

theorem getmeth_ok {m : Str} {g : Addr} {pl : Sem Bool} {Q : Value × List Value → Shared → Prop} (I : Inv X pins σ H s) (e : H a = some (.ins C dx fs)) (c : Cls X.K C) (k : Meth X.K C m g) (l : fs.lookup m = none)
    (h : Q (.ref g, [.ref a]) s) : wpAny (model X.prog X.w) A (getMethod (.ref a) m pl) Q E s := by
  obtain ⟨mA, O, r, _, _, _⟩ := ins_get I.hok e
  have hn : mA m = none := RelO.none_of (by rw [← l]; exact r m)
  exact get_meth I.kIn O (c.get m) k.at_ k.fn hn h

theorem setattr_ok {y : V} {u : Value} {Q : Unit → Shared → Prop} (I : Inv X pins σ H s) (e : H a = some (.ins C dx fs)) (c : Cls X.K C) (n : NoAttr X.K C f) (hl : fs.length < 1000) (ry : RelV y u)
    (h : ∀ s', Inv X pins σ (upd H a (.ins C dx (putF f y fs))) s' → Q () s') : wpAny (model X.prog X.w) A (setAttr (.ref a) f u) Q E s := by
  obtain ⟨mA, O, r, wi, _, ho⟩ := ins_get I.hok e
  have hz : (fs.map (·.1)).length ≤ sizeLine := by rw [List.length_map, sizeLine_eq]; omega
  refine set_map I.kIn O c.sa c.po n.taker c.hd wi hz fun h' O' sb => h _ ?_
  have hd : ∃ o, h'.get? dx = some o := let ⟨o, _, _, e', _⟩ := O'.ns; ⟨o, e'⟩
  refine I.write (x := a) (e := dx) (by rw [e]; exact True.intro) (.inr ho) (fun b q hb z => (sb.2 b hb).trans z) hd ?_
  refine ⟨by rw [upd_ne O.ne]; exact ho, ?_, O.ne, O'.obj, _, O'.ns, fun g => ?_, fun g hg => ?_⟩
  · have := length_putF f y fs; omega
  · show RelO ((putF f y fs).lookup g) (if g = f then some u else mA g)
    rw [lookup_putF]
    by_cases q : g = f
    · rw [if_pos q, if_pos q]; exact ry
    · rw [if_neg q, if_neg q]; exact r g
  · by_cases q : g = f
    · rw [q]; exact (keys_putF f y fs).1
    · refine (keys_putF f y fs).2 g (wi g fun z => hg ?_)
      show (if g = f then some u else mA g) = none
      rw [if_neg q]; exact z

/-- a new instance, tracked, without attributes -/
theorem Inv.made (I : Inv X pins σ H s) : Inv X pins σ (upd (upd H s.heap.objs.size (.own (s.heap.objs.size + 1))) (s.heap.objs.size + 1) (.ins C s.heap.objs.size []))
    { s with heap := (s.heap.push PySem.W.emptyDict).push (PySem.W.instObj C s.heap.objs.size) } := by
  have e1 : (s.heap.push PySem.W.emptyDict).get? s.heap.objs.size = some PySem.W.emptyDict := Heap.get?_push_size s.heap rfl
  have e2 : ((s.heap.push PySem.W.emptyDict).push (PySem.W.instObj C s.heap.objs.size)).get? (s.heap.objs.size + 1) = some (PySem.W.instObj C s.heap.objs.size) := by
    have := Heap.get?_push_size (s.heap.push PySem.W.emptyDict) (o := PySem.W.instObj C s.heap.objs.size) rfl
    rwa [Heap.size_push] at this
  have e3 : (s.heap.push PySem.W.emptyDict).Ns s.heap.objs.size (fun _ => none) := ⟨PySem.W.emptyDict, #[], _, e1, rfl, (fun e he => absurd he (by simp)), fun _ => rfl⟩
  have I1 := I.laid (a := s.heap.objs.size) (o := .own (s.heap.objs.size + 1)) (h' := s.heap.push PySem.W.emptyDict) (t' := s.toks) (fun b u q => Heap.get?_push_of_some _ q) (Nat.le_refl _) ⟨_, e1⟩
  refine I1.laid (a := s.heap.objs.size + 1) (o := .ins C s.heap.objs.size []) (t' := s.toks) (fun b u q => Heap.get?_push_of_some _ q) (Nat.le_of_eq (Heap.size_push _ _)) ?_
  have ne : s.heap.objs.size ≠ s.heap.objs.size + 1 := Nat.ne_of_lt (Nat.lt_succ_self _)
  refine ⟨by rw [upd_ne ne, upd_same], Nat.zero_le _, ne, e2, fun _ => none, (Heap.Ns1.of_empty e3).at fun o q => Heap.get?_push_of_some _ q, fun _ => True.intro, fun y hy => absurd rfl hy⟩

/-- e.f where nothing but the object is asked: through attributeBase (super) and the last hold -/
theorem attr_of {prog : Program} {w : World} {env : Env} {e : Expr} {f : Str} {pos : Pos} {s : Shared} {Q : Value → Shared → Prop} (hb : attributeBase e f env (eval e env) = eval e env)
    (h : wpAny (model prog w) A (eval e env) (fun o s₁ => wpAny (model prog w) A (getAttr o f true) Q E s₁) E s) : wpAny (model prog w) A (eval (.Attribute e f pos) env) Q E s :=
  Attribute_any_ h (by rw [arm_eval_Attribute, hb])
end

/-! ### readings and rules -/
/-- e.f, an attribute of the instance -/
noncomputable def tFld (K : PySem.W.Frag) (ta : TE) (f : Str) : TE := fun σ H Q => ta σ H fun x H1 => ∃ a C dx fs v, x = .ref a ∧ H1 a = some (.ins C dx fs) ∧ Cls K C ∧ NoAttr K C f ∧ fs.lookup f = some v ∧ Q v H1
/-- e.f = value -/
noncomputable def sFld (K : PySem.W.Frag) (ta tv : TE) (f : Str) : TS := fun D σ H => tv σ H fun y H1 => ta σ H1 fun x H2 => ∃ a C dx fs, x = .ref a ∧ H2 a = some (.ins C dx fs) ∧ Cls K C ∧ NoAttr K C f ∧ fs.length < 1000 ∧
  D.nx σ (upd H2 a (.ins C dx (putF f y fs)))
section
variable {X : Cx} {o e value : Expr} {f : Str} {pos pos' tpos : Pos} {ta tv : TE}
theorem pe_fld (he : PE X e ta) (hb : attributeBase e f X.env (eval e X.env) = eval e X.env) : PE X (.Attribute e f pos) (tFld X.K ta f) := by
  intro pins s σ H Q I h
  refine attr_of hb (thn (he pins s σ H _ I h) fun u s1 ⟨x, H1, I1, rx, a, C, dx, fs, v, ex, ea, c, n, l, q⟩ => ?_)
  subst ex
  obtain rfl : u = Value.ref a := rx
  exact getattr_ok I1 ea c n l fun u' s2 I2 ru => ⟨v, H1, I2, ru, q⟩
theorem ps_fld (ha : PE X o ta) (hv : PE X value tv) (hs : swapsWith value (some (.Attribute o f pos')) pos.line X.env = pure false) : PS X (.Assign [.Attribute o f pos'] value pos) (sFld X.K ta tv f) := by
  intro pins s σ H D I h
  refine plainObj_wpAny_Assign_Attribute (thn (hv pins s σ H _ I h) fun u s1 ⟨y, H1, I1, ry, q⟩ => thn (ha pins s1 σ H1 _ I1 q) fun ov s2 ⟨x, H2, I2, rx, a, C, dx, fs, ex, ea, c, n, l, q2⟩ => ?_) hs
  subst ex
  obtain rfl : ov = Value.ref a := rx
  exact setattr_ok I2 ea c n l ry fun s3 I3 => ⟨σ, _, I3, q2⟩
/-- what is between an instance and its method: the tree of a method call -/
theorem methcall_of {pl : Sem Bool} {m : Str} {apos : Pos} {args : List Expr} {pins : List (Addr × Obj)} {s : Shared} {σ : St} {H : Hp} {Q : Value → Shared → Prop} {te : TE} (he : PE X e te) (I : Inv X pins σ H s)
    (h : te σ H fun x H1 => ∃ a C dx fs g, x = .ref a ∧ H1 a = some (.ins C dx fs) ∧ Cls X.K C ∧ Meth X.K C m g ∧ fs.lookup m = none ∧
      ∀ s1, Inv X pins σ H1 s1 → wpAny (model X.prog X.w) X.A (callWith pos (.ref g) [.ref a] (backTo pos (starEach args X.env)) (backToKw pos (keywordEach [] X.env))) Q X.xe s1)
    (ht : eval (.Call (.Attribute e m apos) args [] pos) X.env = (do
      let ov ← eval e X.env
      standAt apos.atName
      let (f, first) ← holding [ov] (getMethod ov m pl)
      callWith pos f first (backTo pos (starEach args X.env)) (backToKw pos (keywordEach [] X.env)))) :
    wpAny (model X.prog X.w) X.A (eval (.Call (.Attribute e m apos) args [] pos) X.env) Q X.xe s := by
  refine PySem.W.methodCall_KW (pl := pl) (thn (he pins s σ H _ I h) fun u s1 ⟨x, H1, I1, rx, a, C, dx, fs, g, ex, ea, c, k, l, q⟩ => ?_) ht
  subst ex
  obtain rfl : u = Value.ref a := rx
  exact getmeth_ok I1 ea c k l (q s1 I1)
end

/-! ### isinstance -/
section
variable {X : Cx} {pins : List (Addr × Obj)} {σ : St} {H : Hp} {s : Shared} {A : Around} {E : Value → Shared → Prop} {Q : Value → Shared → Prop} {c : Value} {b : Bool}
/-- the type of a value, as the fragment's deciders take it; for an instance its class -/
inductive TyOf (K : PySem.W.Frag) (H : Hp) : V → Value → Prop where
  | non : TyOf K H .non (.type "NoneType")
  | bl (x : Bool) : TyOf K H (.bl x) (.type "bool")
  | int (i : Int) : TyOf K H (.int i) (.type "int")
  | str (x : Str) : TyOf K H (.str x) (.type "str")
  | flt (x : UInt64) : TyOf K H (.flt x) (.type "float")
  | lst {a : Addr} {xs : List V} (e : H a = some (.lst xs)) : TyOf K H (.ref a) (.type "list")
  | frz {a : Addr} {o : Obj} {xs : List V} (e : H a = some (.frz o (.lst xs))) : TyOf K H (.ref a) (.type "list")
  | tup {a : Addr} {xs : List V} (e : H a = some (.tup xs)) : TyOf K H (.ref a) (.type "tuple")
  | dK {a : Addr} {kvs : List (Key × V)} (e : H a = some (.dK kvs)) : TyOf K H (.ref a) (.type "dict")
  | dT {a : Addr} {kvs : List (List Key × V)} (e : H a = some (.dT kvs)) : TyOf K H (.ref a) (.type "dict")
  | ins {a C dx : Addr} {fs : List (Str × V)} (e : H a = some (.ins C dx fs)) (cl : Cls K C) (ha : PySem.W.findIn K (.ref C) "__class__" = some (some (.builtin "object.__class__")))
      (hn : PySem.W.specialIn K (.builtin "object.__class__") "__get__" = some (some (.builtin "getset_descriptor.__get__"))) (htk : PySem.W.takesIn K (.builtin "object.__class__") = some true)
      (hm : PySem.W.mroIn K C (.type "object") = some true) : TyOf K H (.ref a) (.ref C)
/-- isinstance(x, c) for one class c, a built-in or an own one: kitOne's answer -/
theorem isinst_ok {x : V} {u t : Value} (I : Inv X pins σ H s) (rx : RelV x u) (ty : TyOf X.K H x t) (e : PySem.W.kitOne X.K t c = some b) (h : ∀ tk, Q (.bool b) { s with toks := tk }) :
    wpAny (model X.prog X.w) A (call (.builtin "isinstance") [u, c]) Q E s := by
  cases ty with
  | non => cases (show u = Value.none from rx); exact PySem.W.kia_one PySem.W.kitx_none I.kIn True.intro e (fun z => nomatch z) h
  | bl y => cases (show u = Value.bool y from rx); exact PySem.W.kia_one PySem.W.kitx_bool I.kIn True.intro e (fun z => nomatch z) h
  | int i => obtain ⟨t, q⟩ := (show ∃ t, u = Value.int i t from rx); cases q; exact PySem.W.kia_one PySem.W.kitx_int I.kIn True.intro e (fun z => nomatch z) h
  | str y => obtain ⟨t, q⟩ := (show ∃ t, u = Value.str y t from rx); cases q; exact PySem.W.kia_one PySem.W.kitx_str I.kIn True.intro e (fun z => nomatch z) h
  | flt y => obtain ⟨t, q⟩ := (show ∃ t, u = Value.float y t from rx); cases q; exact PySem.W.kia_one PySem.W.kitx_float I.kIn True.intro e (fun z => nomatch z) h
  | @lst a xs ea =>
    cases (show u = Value.ref a from rx)
    obtain ⟨_, _, n, _, h1⟩ := (show ObjOk X.prog X.w H s.heap a (.lst xs) from I.hok a _ ea)
    exact PySem.W.kia_one PySem.W.kitx_list I.kIn ⟨_, h1, rfl⟩ e (fun z => nomatch z) h
  | @frz a ob xs ea =>
    cases (show u = Value.ref a from rx)
    obtain ⟨_, _, _, n, _, h1⟩ := (show ObjOk X.prog X.w H s.heap a (.frz ob (.lst xs)) from I.hok a _ ea)
    exact PySem.W.kia_one PySem.W.kitx_list I.kIn ⟨_, h1, rfl⟩ e (fun z => nomatch z) h
  | @tup a xs ea =>
    cases (show u = Value.ref a from rx)
    obtain ⟨_, _, _, p⟩ := (show ObjOk X.prog X.w H s.heap a (.tup xs) from I.hok a _ ea)
    obtain ⟨o, h1, h2, _⟩ := p
    exact PySem.W.kia_one PySem.W.kitx_tuple I.kIn ⟨o, h1, h2⟩ e (fun z => nomatch z) h
  | @dK a kvs ea =>
    cases (show u = Value.ref a from rx)
    obtain ⟨_, _, vs, _, p⟩ := (show ObjOk X.prog X.w H s.heap a (.dK kvs) from I.hok a _ ea)
    obtain ⟨o, es, ep, h1, h2, _⟩ := p
    exact PySem.W.kia_one PySem.W.kitx_dict I.kIn ⟨o, h1, h2.1⟩ e (fun z => nomatch z) h
  | @dT a kvs ea =>
    cases (show u = Value.ref a from rx)
    obtain ⟨_, _, xs, _, o, es, ep, h1, h2, _⟩ := (show ObjOk X.prog X.w H s.heap a (.dT kvs) from I.hok a _ ea)
    exact PySem.W.kia_one PySem.W.kitx_dict I.kIn ⟨o, h1, h2.1⟩ e (fun z => nomatch z) h
  | @ins a C dx fs ea cl ha hn htk hm =>
    cases (show u = Value.ref a from rx)
    obtain ⟨mA, O, _⟩ := ins_get I.hok ea
    obtain ⟨od, J, _⟩ := O.look
    exact PySem.W.kia_one (PySem.W.kitx_own (cl.get _) cl.hd ha hn htk hm) I.kIn J e (fun z => nomatch z) h
end
end L2

namespace L2
open PySem PySem.Spec PyProof.Rows

/-! ### room -/
structure Room (k : Nat) (A : Around) : Prop where
  hd : A.handled = none
  dp : A.depth + 3 * k + 5 < recursionLimit
  un : A.units + 16 * k + 200 < cLine
theorem Room.mono {j k : Nat} {A : Around} (r : Room k A) (h : j ≤ k) : Room j A := ⟨r.hd, by have := r.dp; omega, by have := r.un; omega⟩
theorem Room.deeper {k : Nat} {A : Around} (r : Room (k + 1) A) (env : Env) : Room k (A.deeper env) :=
  ⟨r.hd, by have := r.dp; show A.depth + 1 + 3 * k + 5 < _; omega, by have := r.un; show A.units + 3 + 16 * k + 200 < _; omega⟩
theorem make_depth {A : Around} {C : Addr} {us : List Value} {kw : List (Str × Value)} : (A.under (.builtin "type.__call__" ⟨.ref C :: us, kw⟩)).depth = A.depth + 1 := by
  first | rfl | simp [Around.under, Code.weight, Code.isCreation, Code.isGuard, Code.isCaller, Code.frames, Code.isFrame, guardIds]
theorem make_units {A : Around} {C : Addr} {us : List Value} {kw : List (Str × Value)} : (A.under (.builtin "type.__call__" ⟨.ref C :: us, kw⟩)).units = A.units + 1 := by
  first | rfl | simp [Around.under, Code.cUnits, Code.frames, Code.isFrame]
theorem Room.make {k : Nat} {A : Around} (r : Room (k + 1) A) (C : Addr) (us : List Value) (kw : List (Str × Value)) : Room k (A.under (.builtin "type.__call__" ⟨.ref C :: us, kw⟩)) :=
  ⟨r.hd, by have := r.dp; rw [make_depth]; omega, by have := r.un; rw [make_units]; omega⟩
theorem Room.depth {k : Nat} {A : Around} (r : Room k A) : A.depth < recursionLimit := by have := r.dp; omega
theorem Room.units {k : Nat} {A : Around} (r : Room k A) : A.units + 64 < cLine := by have := r.un; omega
/-! ### argument lists and displays -/
noncomputable def tNil : TA := fun _ H Q => Q [] H
noncomputable def tCons (ta : TE) (tr : TA) : TA := fun σ H Q => ta σ H fun x H1 => tr σ H1 fun xs H2 => Q (x :: xs) H2
section
variable {X : Cx} {e : Expr} {es : List Expr} {te : TE} {t : TA} {pos : Pos}
theorem pa_nil : PA X [] tNil := fun _ _ _ _ H Q I h => Calls.spliced_nil ⟨[], H, I, .nil, h⟩
theorem pa_cons (ha : PE X e te) (hr : PA X es t) (hs : starEach (e :: es) X.env = (false, eval e X.env) :: starEach es X.env := by rfl) : PA X (e :: es) (tCons te t) := by
  intro pos pins s σ H Q I h
  rw [hs]
  show wpAny _ _ (spliced ((false, eval e X.env) :: backTo pos (starEach es X.env))) _ _ s
  refine Calls.spliced_cons (thn (ha pins s σ H _ I h) fun u s1 ⟨x, H1, I1, r1, q1⟩ => ?_)
  exact thn (hr pos pins s1 σ H1 _ I1 q1) fun us s2 ⟨xs, H2, I2, r2, q2⟩ => ⟨x :: xs, H2, I2, .cons r1 r2, q2⟩

/-- a tuple, a list of written items -/
noncomputable def tTup (t : TA) : TE := fun σ H Q => t σ H fun xs H1 => xs.length ≤ sizeLine ∧ ∀ p, H1 p = none → Q (.ref p) (upd H1 p (.tup xs))
noncomputable def tLst (t : TA) : TE := fun σ H Q => t σ H fun xs H1 => xs.length ≤ sizeLine ∧ ∀ p, H1 p = none → Q (.ref p) (upd H1 p (.lst xs))
theorem pe_tup {x1} (h : PA X es t) : PE X (.Tuple es x1 pos) (tTup t) := by
  intro pins s σ H Q I hq
  refine wpAny_Tuple_spliced (thn (h pos pins s σ H _ I hq) fun us s1 ⟨xs, H1, I1, r, z, q⟩ => ⟨by rw [← r.length]; exact z, ?_⟩)
  have hf : H1 s1.heap.objs.size = none := I1.hok.fresh (Nat.le_refl _)
  refine ⟨.ref s1.heap.objs.size, upd H1 s1.heap.objs.size (.tup xs), I1.laid (t' := s1.toks) (fun b u e => Heap.get?_push_of_some _ e) (Nat.le_refl _) ?_, rfl, q _ hf⟩
  exact ⟨z, us, r, ⟨_, Heap.get?_push_size _ rfl, rfl, _, rfl⟩⟩
theorem pe_lst (h : PA X es t) : PE X (.List es pos) (tLst t) := by
  intro pins s σ H Q I hq
  refine wpAny_List_spliced (thn (h pos pins s σ H _ I hq) fun us s1 ⟨xs, H1, I1, r, z, q⟩ => ⟨by rw [← r.length]; exact z, ?_⟩)
  have hf : H1 s1.heap.objs.size = none := I1.hok.fresh (Nat.le_refl _)
  refine ⟨.ref s1.heap.objs.size, upd H1 s1.heap.objs.size (.lst xs), I1.laid (t' := s1.toks) (fun b u e => Heap.get?_push_of_some _ e) (Nat.le_refl _) ?_, rfl, q _ hf⟩
  exact ⟨z, us, 0, r, Heap.get?_push_size _ rfl⟩
end

/-! ### what a def promises -/
/-- a def's promise: the bound arguments in the parameters' order, the heap, the wanted end, the wanted exception -/
noncomputable abbrev Sp := List V → Hp → VK → XK → Prop
/-- how an exception lies behind a call (file 08 gives it): the callers' frames, abstract heap and state ahead of the call, the wish, the exception, the state -/
noncomputable abbrev CXT := List Env → Hp → Shared → XK → Value → Shared → Prop

/-- the state at a call -/
structure Env0 (P : Program) (w : World) (K : PySem.W.Frag) (mg : Str → Option Value) (base : Heap) (A : Around) (outer : List Env) (s : Shared) (H : Hp) : Prop where
  frames : A.frames = some outer
  mod : Mod K mg base
  bs : ∀ b o, base.get? b = some o → s.heap.get? b = some o ∧ H b = none
  bsz : base.objs.size ≤ s.heap.objs.size
  funs : s.heap.FunFrames base outer
  frf : ∀ b ∈ frs outer, H b = none
  hok : HOk P w H s.heap
  bare : AllBare s.gens
/-- a call's end -/
noncomputable def CE (outer : List Env) (P : Program) (w : World) (H : Hp) (s : Shared) (Q : VK) (u : Value) (s' : Shared) : Prop :=
  ∃ v H', s'.os = s.os ∧ AllBare s'.gens ∧ Un (frs outer) [] H H' s.heap s'.heap ∧ HOk P w H' s'.heap ∧ RelV v u ∧ Q v H'
noncomputable def CR (CX : CXT) (outer : List Env) (P : Program) (w : World) (H : Hp) (s : Shared) (Q : VK) (E : XK) (r : Result) (s' : Shared) : Prop :=
  match r with
  | .ok (.ret u) => CE outer P w H s Q u s'
  | .ok _ => False
  | .error e => CX outer H s E e s'
structure FnOk (P : Program) (w : World) (K : PySem.W.Frag) (mg : Str → Option Value) (base : Heap) (CX : CXT) (k : Nat) (f : Addr) (fd : FuncData) (ps : List Str) (sp : Sp) : Prop where
  len : ∀ vs H Q E, sp vs H Q E → vs.length = ps.length
  run : ∀ (A : Around) (outer : List Env) (s : Shared) (H : Hp) (args : Args) (us : List Value) (vs : List V) (Q : VK) (E : XK), Room k A → Env0 P w K mg base A outer s H → BindsTo s fd args (ps.zip us) → Vals vs us → sp vs H Q E →
    codeAny (model P w) A (.call (.ref f) args) (CR CX outer P w H s Q E) s
theorem FnOk.mono {P : Program} {w : World} {K : PySem.W.Frag} {mg : Str → Option Value} {base : Heap} {CX : CXT} {j k : Nat} {f : Addr} {fd : FuncData} {ps : List Str} {sp : Sp} (F : FnOk P w K mg base CX j f fd ps sp) (h : j ≤ k) :
    FnOk P w K mg base CX k f fd ps sp := ⟨F.len, fun A outer s H args us vs Q E hr => F.run A outer s H args us vs Q E (hr.mono h)⟩
theorem Env0.make {P : Program} {w : World} {K : PySem.W.Frag} {mg : Str → Option Value} {base : Heap} {A : Around} {outer : List Env} {s : Shared} {H : Hp} (e : Env0 P w K mg base A outer s H) (C : Addr) (us : List Value) (kw : List (Str × Value)) :
    Env0 P w K mg base (A.under (.builtin "type.__call__" ⟨.ref C :: us, kw⟩)) outer s H := ⟨by first | exact e.frames | (simpa [Around.under, Code.envs, Code.isFrame, pushEnvs] using e.frames), e.mod, e.bs, e.bsz, e.funs, e.frf, e.hok, e.bare⟩
section
variable {X : Cx} {pins : List (Addr × Obj)} {σ : St} {H : Hp} {s s' : Shared}
/-- from a body: what a callee wants -/
theorem Inv.env0 (I : Inv X pins σ H s) : Env0 X.prog X.w X.K X.mg X.base X.A X.stack s H :=
  ⟨I.ok.frames, I.ok.mod, I.bs, Nat.le_trans I.ok.bsz I.sz, I.stack, I.stkFree, I.hok, I.bare⟩
/-- behind a call -/
theorem Inv.after {Q : VK} {u : Value} (I : Inv X pins σ H s) (h : CE X.stack X.prog X.w H s Q u s') : EP X pins σ Q u s' := by
  obtain ⟨v, H', os, bare, un, hok, r, q⟩ := h
  obtain ⟨hh, g, d, t, os'⟩ := s'
  obtain rfl : os' = s.os := os
  exact ⟨v, H', I.call (h' := hh) (g' := g) (d' := d) (t' := t) (ch := []) un hok bare (fun b z => absurd z (by simp)), r, q⟩
end

/-! ### calls -/
/-- f(..): the written arguments, then the defaults dvs; E: what is wanted of an exception -/
noncomputable def tCall (sp : Sp) (dvs : List V) (E : XK) (t : TA) : TE := fun σ H Q => t σ H fun vs H1 => sp (vs ++ dvs) H1 Q E
/-- o.m(..) of an instance of the class at C -/
noncomputable def tMeth (C : Addr) (m : Str) (sp : Sp) (dvs : List V) (E : XK) (ta : TE) (t : TA) : TE := fun σ H Q => ta σ H fun x H1 => ∃ a dx fs, x = .ref a ∧ H1 a = some (.ins C dx fs) ∧ fs.lookup m = none ∧
  t σ H1 fun vs H2 => sp (x :: (vs ++ dvs)) H2 Q E
/-- C(..): a new instance and its dict, then __init__ -/
noncomputable def tMake (C : Addr) (sp : Sp) (dvs : List V) (E : XK) (t : TA) : TE := fun σ H Q => t σ H fun vs H1 => ∀ x dx, H1 x = none → H1 dx = none → dx ≠ x →
  sp (.ref x :: (vs ++ dvs)) (upd (upd H1 dx (.own x)) x (.ins C dx [])) (fun v H2 => v = .non ∧ Q (.ref x) H2) E

/-- how the parameters are bound: us the positional arguments, kw the keywords' values by name, ds the defaults that fill up -/
noncomputable def Binds (K : PySem.W.Frag) (fd : FuncData) (ps : List Str) (ds : List Value) : Prop :=
  ∀ (s : Shared) (us : List Value), K.In s.heap → (us ++ ds).length = ps.length → BindsTo s fd ⟨us, []⟩ (ps.zip (us ++ ds))
/-- every parameter is given -/
theorem Binds.all {K : PySem.W.Frag} {fd : FuncData} {ps : List Str} (h : ∀ us : List Value, us.length = ps.length → bindArgs fd ⟨us, []⟩ = pure (ps.zip us)) : Binds K fd ps [] := fun s us _ hl => by
  rw [List.append_nil] at hl ⊢
  exact .of_eq (h us hl)

/-- an exception of a callee reaches what this body wants of exceptions -/
noncomputable def Passes (CX : CXT) (X : Cx) (E : XK) : Prop := ∀ (pins : List (Addr × Obj)) (σ : St) (H : Hp) (s : Shared) (e : Value) (s' : Shared), Inv X pins σ H s → CX X.stack H s E e s' → X.xe e s'

section
variable {X : Cx} {CX : CXT} {k : Nat} {f C : Addr} {fd : FuncData} {ps : List Str} {sp : Sp} {dvs : List V} {ds : List Value} {E : XK} {x m : Str} {p pos apos : Pos} {e o : Expr} {es : List Expr} {ta : TE} {t : TA}

/-- the callee runs -/
theorem run_fn {pins : List (Addr × Obj)} {σ : St} {H : Hp} {s : Shared} {Q : VK} {us : List Value} {vs : List V} (F : FnOk X.prog X.w X.K X.mg X.base CX k f fd ps sp) (hr : Room k X.A) (hb : Binds X.K fd ps ds) (hd : Vals dvs ds) (hx : Passes CX X E)
    (I : Inv X pins σ H s) (r : Vals vs us) (h : sp (vs ++ dvs) H Q E) : wpAny (model X.prog X.w) X.A (call (.ref f) us) (EP X pins σ Q) X.xe s := by
  have r2 : Vals (vs ++ dvs) (us ++ ds) := r.append hd
  have hl : (us ++ ds).length = ps.length := by rw [← r2.length]; exact F.len _ _ _ _ h
  refine wpAny_call (codeAny_mono (F.run X.A X.stack s H ⟨us, []⟩ (us ++ ds) (vs ++ dvs) Q E hr I.env0 (hb s us I.kIn hl) r2 h) fun r s' hq => ?_)
  cases r with
  | error e => exact hx pins σ H s e s' I hq
  | ok fl =>
    cases fl with
    | ret u => exact I.after hq
    | next => exact False.elim hq
    | brk => exact False.elim hq
    | cont => exact False.elim hq

theorem pe_call (F : FnOk X.prog X.w X.K X.mg X.base CX k f fd ps sp) (hr : Room k X.A) (hg : Gl X x) (hm : X.mg x = some (.ref f)) (hk : PySem.W.keepIn X.K (.ref f) = true) (hb : Binds X.K fd ps ds) (hd : Vals dvs ds) (hx : Passes CX X E)
    (ha : PA X (e :: es) t) (hdb : (x == ("__debug__" : Str)) = false := by decide) (he : starEach (e :: es) X.env = (false, eval e X.env) :: starEach es X.env := by rfl) (hpl : (backTo pos (starEach es X.env)).any (·.1) = false := by rfl) :
    PE X (.Call (.Name x p) (e :: es) [] pos) (tCall sp dvs E t) := by
  intro pins s σ H Q I h
  refine wpAny_Call_Name_kw (ld_glob I hg hm ?_ hdb)
  refine PySem.W.callWith_K (h₀ := X.base) I.ok.mod.kin hk (thn (ha pos pins s σ H _ I h) fun us s1 ⟨vs, H1, I1, r, q⟩ => ⟨I1.kIn, ?_⟩) he hpl
  exact run_fn F hr hb hd hx I1 r q
/-- o.m(e, ..) -/
theorem pe_meth {pl : Sem Bool} (he : PE X o ta) (c : Cls X.K C) (hm : Meth X.K C m f) (F : FnOk X.prog X.w X.K X.mg X.base CX k f fd ps sp) (hr : Room k X.A) (hb : Binds X.K fd ps ds) (hd : Vals dvs ds) (hx : Passes CX X E) (ha : PA X (e :: es) t)
    (hst : starEach (e :: es) X.env = (false, eval e X.env) :: starEach es X.env := by rfl) (hpl : (backTo pos (starEach es X.env)).any (·.1) = false := by rfl)
    (ht : eval (.Call (.Attribute o m apos) (e :: es) [] pos) X.env = (do
      let ov ← eval o X.env
      standAt apos.atName
      let (f, first) ← holding [ov] (getMethod ov m pl)
      callWith pos f first (backTo pos (starEach (e :: es) X.env)) (backToKw pos (keywordEach [] X.env))) := by rfl) :
    PE X (.Call (.Attribute o m apos) (e :: es) [] pos) (tMeth C m sp dvs E ta t) := by
  intro pins s σ H Q I h
  refine PySem.W.methodCall_KW (pl := pl) (thn (he pins s σ H _ I h) fun u s1 ⟨x, H1, I1, rx, a, dx, fs, ex, ea, l, q⟩ => ?_) ht
  subst ex
  obtain rfl : u = Value.ref a := rx
  refine getmeth_ok I1 ea c hm l ?_
  refine PySem.W.callWith_K (first := [.ref a]) (h₀ := X.base) I.ok.mod.kin hm.kp (thn (ha pos pins s1 σ H1 _ I1 q) fun us s2 ⟨vs, H2, I2, r, q2⟩ => ⟨I2.kIn, ?_⟩) hst hpl
  exact run_fn (us := .ref a :: us) (vs := .ref a :: vs) F hr hb hd hx I2 (.cons rfl r) q2
/-- o.m() -/
theorem pe_meth0 {pl : Sem Bool} (he : PE X o ta) (c : Cls X.K C) (hm : Meth X.K C m f) (F : FnOk X.prog X.w X.K X.mg X.base CX k f fd ps sp) (hr : Room k X.A) (hb : Binds X.K fd ps ds) (hd : Vals dvs ds) (hx : Passes CX X E)
    (ht : eval (.Call (.Attribute o m apos) [] [] pos) X.env = (do
      let ov ← eval o X.env
      standAt apos.atName
      let (f, first) ← holding [ov] (getMethod ov m pl)
      callWith pos f first (backTo pos (starEach [] X.env)) (backToKw pos (keywordEach [] X.env))) := by rfl) :
    PE X (.Call (.Attribute o m apos) [] [] pos) (tMeth C m sp dvs E ta tNil) := by
  intro pins s σ H Q I h
  refine PySem.W.methodCall_KW (pl := pl) (thn (he pins s σ H _ I h) fun u s1 ⟨x, H1, I1, rx, a, dx, fs, ex, ea, l, q⟩ => ?_) ht
  subst ex
  obtain rfl : u = Value.ref a := rx
  refine getmeth_ok I1 ea c hm l ?_
  exact PySem.W.callWith_K0 (first := [.ref a]) I1.kIn hm.kp (run_fn (us := [.ref a]) (vs := [.ref a]) F hr hb hd hx I1 (.cons rfl .nil) q)

/-- what a class must have to be made -/
structure Mk (K : PySem.W.Frag) (C f : Addr) : Prop where
  makes : PySem.W.makesIn K C = true
  init : PySem.W.findIn K (.ref C) "__init__" = some (some (.ref f))
  fn : PySem.W.isFn K (.ref f) = true
  kp : PySem.W.keepIn K (.ref C) = true

theorem run_make {pins : List (Addr × Obj)} {σ : St} {H : Hp} {s : Shared} {Q : VK} {us : List Value} {vs : List V} (M : Mk X.K C f) (F : FnOk X.prog X.w X.K X.mg X.base CX k f fd ps sp) (hr : Room (k + 1) X.A) (hb : Binds X.K fd ps ds) (hd : Vals dvs ds)
    (hx : Passes CX X E) (I : Inv X pins σ H s) (r : Vals vs us)
    (h : ∀ x dx, H x = none → H dx = none → dx ≠ x → sp (.ref x :: (vs ++ dvs)) (upd (upd H dx (.own x)) x (.ins C dx [])) (fun v H2 => v = .non ∧ Q (.ref x) H2) E) :
    wpAny (model X.prog X.w) X.A (call (.ref C) us) (EP X pins σ Q) X.xe s := by
  have hq := h (s.heap.objs.size + 1) s.heap.objs.size (I.hok.fresh (Nat.le_succ _)) (I.hok.fresh (Nat.le_refl _)) (Nat.ne_of_lt (Nat.lt_succ_self _))
  have I2 := Inv.made (C := C) I
  have r2 : Vals (V.ref (s.heap.objs.size + 1) :: (vs ++ dvs)) (Value.ref (s.heap.objs.size + 1) :: (us ++ ds)) := .cons rfl (r.append hd)
  have hl : (Value.ref (s.heap.objs.size + 1) :: us ++ ds).length = ps.length := by
    have e := r2.length
    rw [F.len _ _ _ _ hq] at e
    exact e.symm
  refine wpAny_call (make_map (f := f) I.kIn M.makes M.init (beq_iff_eq.mp M.fn) (codeAny_mono (F.run _ X.stack _ _ ⟨Value.ref (s.heap.objs.size + 1) :: us, []⟩ (Value.ref (s.heap.objs.size + 1) :: (us ++ ds)) _ _ E (hr.make C us [])
    (I2.env0.make C us []) (hb _ (Value.ref (s.heap.objs.size + 1) :: us) I2.kIn hl) r2 hq) fun r s' hq' => ?_))
  cases r with
  | error e => exact hx pins σ _ _ e s' I2 hq'
  | ok fl =>
    cases fl with
    | ret u =>
      obtain ⟨v, H', I3, rv, ev, q3⟩ := I2.after hq'
      subst ev
      exact ⟨rv, ⟨V.ref (s.heap.objs.size + 1), H', I3, rfl, q3⟩⟩
    | next => exact False.elim hq'
    | brk => exact False.elim hq'
    | cont => exact False.elim hq'
theorem pe_make0 (M : Mk X.K C f) (F : FnOk X.prog X.w X.K X.mg X.base CX k f fd ps sp) (hr : Room (k + 1) X.A) (hg : Gl X x) (hm : X.mg x = some (.ref C)) (hb : Binds X.K fd ps ds) (hd : Vals dvs ds) (hx : Passes CX X E)
    (hdb : (x == ("__debug__" : Str)) = false := by decide) : PE X (.Call (.Name x p) [] [] pos) (tMake C sp dvs E tNil) := by
  intro pins s σ H Q I h
  refine wpAny_Call_Name_kw (ld_glob I hg hm ?_ hdb)
  exact PySem.W.callWith_K0 I.kIn M.kp (run_make (us := []) M F hr hb hd hx I .nil h)
end

/-! ### keywords -/
section
variable {X : Cx} {CX : CXT} {k : Nat} {f C : Addr} {fd : FuncData} {ps ks : List Str} {sp : Sp} {E : XK} {x m : Str} {p pos apos kpos : Pos} {e o : Expr} {es : List Expr} {kws : List Keyword} {te ta : TE} {t tk : TA} {nm : Option Str}
variable {g : List Value → List Value → List Value} {gV : List V → List V → List V}
end

/-! ### a def's body keeps its promise -/
/-- names: the parameters first -/
structure FnScope (N P : List Str) (sc : Scope) : Prop where
  kind : sc.kind = .function
  co : sc.isCoroutine = false
  gen : sc.isGenerator = false
  nd : N.Nodup
  pre : N.take P.length = P
  par : ∀ x ∈ P, sc.names.lookup x = some .local ∨ sc.names.lookup x = some .cell
  nofree : ∀ y ∈ sc.names, y.2 ≠ .free

theorem bindL_out {kindOf : Str → Option NameKind} {x : Str} : ∀ {binds : List (Str × Value)} {m : Str → Option Value}, (∀ v, (x, v) ∉ binds) → bindL kindOf binds m x = m x
  | [], _, _ => rfl
  | (n, v) :: r, m, h => by
    unfold bindL
    rw [bindL_out fun w hw => h w (List.mem_cons_of_mem _ hw)]
    split
    · have : x ≠ n := by rintro rfl; exact h v List.mem_cons_self
      simp [this]
    · rfl
theorem bindC_out {kindOf : Str → Option NameKind} {x : Str} : ∀ {binds : List (Str × Value)} {m : Str → Option Value}, (∀ v, (x, v) ∉ binds) → bindC kindOf binds m x = m x
  | [], _, _ => rfl
  | (n, v) :: r, m, h => by
    unfold bindC
    rw [bindC_out fun w hw => h w (List.mem_cons_of_mem _ hw)]
    split
    · rfl
    · have : x ≠ n := by rintro rfl; exact h v List.mem_cons_self
      simp [this]
theorem bindL_get {kindOf : Str → Option NameKind} {x : Str} {v : Value} : ∀ {P : List Str} {vs : List Value} {i : Nat} {m : Str → Option Value}, P.Nodup → P[i]? = some x → vs[i]? = some v → kindOf x = some .local →
    bindL kindOf (P.zip vs) m x = some v
  | [], _, _, _, _, h, _, _ => by simp at h
  | _ :: _, [], _, _, _, _, h, _ => by simp at h
  | p :: P, w :: vs, 0, m, nd, h1, h2, hk => by
    simp at h1 h2; subst h1; subst h2
    show bindL kindOf ((p, w) :: P.zip vs) m p = _
    unfold bindL
    rw [bindL_out fun v hv => (List.nodup_cons.mp nd).1 (List.of_mem_zip hv).1, if_pos hk]
    simp
  | p :: P, w :: vs, i + 1, m, nd, h1, h2, hk => by
    show bindL kindOf ((p, w) :: P.zip vs) m x = _
    unfold bindL
    exact bindL_get (i := i) (List.nodup_cons.mp nd).2 (by simpa using h1) (by simpa using h2) hk
theorem bindC_get {kindOf : Str → Option NameKind} {x : Str} {v : Value} : ∀ {P : List Str} {vs : List Value} {i : Nat} {m : Str → Option Value}, P.Nodup → P[i]? = some x → vs[i]? = some v → kindOf x ≠ some .local →
    bindC kindOf (P.zip vs) m x = some v
  | [], _, _, _, _, h, _, _ => by simp at h
  | _ :: _, [], _, _, _, _, h, _ => by simp at h
  | p :: P, w :: vs, 0, m, nd, h1, h2, hk => by
    simp at h1 h2; subst h1; subst h2
    show bindC kindOf ((p, w) :: P.zip vs) m p = _
    unfold bindC
    rw [bindC_out fun v hv => (List.nodup_cons.mp nd).1 (List.of_mem_zip hv).1, if_neg hk]
    simp
  | p :: P, w :: vs, i + 1, m, nd, h1, h2, hk => by
    show bindC kindOf ((p, w) :: P.zip vs) m x = _
    unfold bindC
    exact bindC_get (i := i) (List.nodup_cons.mp nd).2 (by simpa using h1) (by simpa using h2) hk

/-- the names' values at the entry -/
noncomputable def start (N : List Str) (vs : List V) : St := vs.map some ++ List.replicate (N.length - vs.length) none

/-- the context of a def's body, at its entry; an exception leaves the frame, then lies as CX says -/
noncomputable def cxOf (CX : CXT) (P : Program) (w : World) (K : PySem.W.Frag) (mg : Str → Option Value) (base : Heap) (N : List Str) (qual : Str) (scope : Scope) (f : Addr) (cd : Value) (A : Around) (outer : List Env) (s : Shared) (H : Hp) (E : XK) : Cx where
  prog := P
  w := w
  K := K
  mg := mg
  base := base
  A := A.deeper (envOfC qual scope s.heap.objs.size f cd)
  N := N
  s₀ := s
  H₀ := H
  env := envOfC qual scope s.heap.objs.size f cd
  outer := outer
  stack := envOfC qual scope s.heap.objs.size f cd :: outer
  ex := []
  calm := true
  fn := fun _ => true
  pn := []
  xe := fun e s' => wpAny (model P w) (A.deeper (envOfC qual scope s.heap.objs.size f cd)) (leaving (envOfC qual scope s.heap.objs.size f cd) e) (fun _ s'' => CX outer H s E e s'') (fun e' s'' => CX outer H s E e' s'') s'

theorem cell_has {sc : Scope} {n : Nat} {x : Str} (h : sc.names.lookup x = some .cell) : ∃ c, (cellsFrom n sc.names []).lookup x = some c := by
  have q := PySem.W.cellsFrom_some sc.names n [] (.inl h)
  exact Option.isSome_iff_exists.mp q

theorem inv_start {CX : CXT} {P : Program} {w : World} {K : PySem.W.Frag} {mg : Str → Option Value} {base : Heap} {N ps : List Str} {qual : Str} {scope : Scope} {f : Addr} {cd : Value} {A : Around} {outer : List Env} {s s1 : Shared} {H : Hp} {E : XK} {us : List Value} {vs : List V}
    (S : FnScope N ps scope) (hd : A.handled = none) (e0 : Env0 P w K mg base A outer s H) (hl : vs.length = ps.length) (r : Vals vs us)
    (x : InCallC s s.heap.objs.size (bindL (envOfC qual scope s.heap.objs.size f cd).kindOf (ps.zip us) fun _ => none) (cellsFrom (s.heap.objs.size + 1) scope.names []) (bindC (envOfC qual scope s.heap.objs.size f cd).kindOf (ps.zip us) fun _ => none) s1) :
    Inv (cxOf CX P w K mg base N qual scope f cd A outer s H E) [] (start N vs) H s1 := by
  have hpl : ps.length ≤ N.length := by have := congrArg List.length S.pre; rw [List.length_take] at this; omega
  obtain ⟨h1, tk, rfl, hk⟩ := x.done
  have noA : ∀ b : Addr, b ∉ (cxOf CX P w K mg base N qual scope f cd A outer s H E).ex := fun b z => absurd (show b ∈ ([] : List Addr) from z) (by simp)
  refine ⟨⟨e0.mod, S.kind, rfl, rfl, Nat.le_refl _, fun y z c h1 h2 => ?_, fun y hy => ?_, fun y c _ h => ?_, fun _ => hd, Around.frames_deeper e0.frames, .inr ⟨rfl, rfl⟩, fun b z => absurd z (noA b), e0.bs, e0.bsz, fun b _ _ => noA b, fun b z => absurd z (noA b), e0.funs, e0.frf⟩,
    rfl, e0.bare, Un.kept hk, ⟨_, x.toInCall.ns, fun i y v h1 h2 h3 => ?_⟩, fun y c h => ⟨_, x.cell y c h⟩, e0.hok.fresh (Nat.le_refl _), fun y c h => ?_, fun p hp => absurd (show p ∈ ([] : List (Addr × Obj)) from hp) (by simp), e0.hok.kept hk, ?_⟩
  · exact name_of_addr x.apart (PySem.mem_of_lookup h1) (PySem.mem_of_lookup h2)
  · have hy : scope.names.lookup y = some .cell ∨ scope.names.lookup y = some .free := hy
    rcases hy with hy | hy
    · exact cell_has hy
    · exact absurd rfl (S.nofree _ (PySem.mem_of_lookup hy))
  · exact Nat.le_of_lt (x.above y c (PySem.mem_of_lookup h))
  · have hi : i < vs.length := by
      unfold start at h2
      by_cases hi : i < vs.length
      · exact hi
      · rw [List.getElem?_append_right (by simpa using hi)] at h2
        rw [List.getElem?_replicate] at h2
        split at h2 <;> cases h2
    have ha : vs[i]? = some v := by
      unfold start at h2
      rw [List.getElem?_append_left (by simpa using hi), List.getElem?_map] at h2
      cases e : vs[i]? with
      | none => rw [e] at h2; cases h2
      | some a => rw [e] at h2; cases h2; rfl
    obtain ⟨u, hu, rv⟩ := r.get ha
    have hp : ps[i]? = some y := by
      rw [← S.pre, List.getElem?_take_of_lt (by omega)]; exact h1
    have ndP : ps.Nodup := by rw [← S.pre]; exact S.nd.sublist (List.take_sublist _ _)
    refine ⟨u, rv, ?_⟩
    rcases S.par y (List.mem_of_getElem? hp) with k | k
    · exact .inl ⟨k, bindL_get ndP hp hu k⟩
    · obtain ⟨c, e⟩ := cell_has (n := s.heap.objs.size + 1) k
      refine .inr ⟨.inl k, c, e, ?_⟩
      have q := x.cell y c e
      rw [bindC_get ndP hp hu (by show scope.names.lookup y ≠ _; rw [k]; decide)] at q
      exact q
  · exact e0.hok.fresh (Nat.le_of_lt (x.above y c (PySem.mem_of_lookup h)))
  · unfold start
    show _ = N.length
    rw [List.length_append, List.length_map, List.length_replicate]
    omega

/-- THE RULE: a def (or a method) of the text, by its body. The body's reading t is chosen for each entry; it is run at the parameters' values -/
theorem fn_of {CX : CXT} {P : Program} {w : World} {K : PySem.W.Frag} {mg : Str → Option Value} {base : Heap} {k : Nat} {f : Addr} {name qual : Str} {params : Arguments} {body : List Stmt} {scope : Scope} {dV kV doc pm cdv ct oc : Value} {an od : Option Addr}
    {osl : Array (Option Value)} {N ps : List Str} {sp : Sp} (lk : K.lookup f = some ⟨oc, od, .func (PySem.W.fnOf name qual params body scope dV kV doc pm an cdv ct), osl⟩) (hcd : PySem.W.codeIn K cdv qual = true) (S : FnScope N ps scope)
    (len : ∀ vs H Q E, sp vs H Q E → vs.length = ps.length)
    (hbody : ∀ (A : Around) (outer : List Env) (s : Shared) (H : Hp) (vs : List V) (Q : VK) (E : XK), Room k (A.deeper (envOfC qual scope s.heap.objs.size f cdv)) → sp vs H Q E →
      ∃ t, PSs (cxOf CX P w K mg base N qual scope f cdv A outer s H E) body t ∧ t { nx := fun _ H' => Q .non H', rt := Q } (start N vs) H) :
    FnOk P w K mg base CX (k + 1) f (PySem.W.fnOf name qual params body scope dV kV doc pm an cdv ct) ps sp := by
  refine ⟨len, fun A outer s H args us vs Q E hr e0 hb r hsp => ?_⟩
  have hl := len _ _ _ _ hsp
  have KX : K.In s.heap := e0.mod.kin.keeps fun b o e => (e0.bs b o e).1
  have lim : s.heap.NoLimit := e0.mod.nolimit.keeps fun b o e => (e0.bs b o e).1
  have hkind : ∀ y ∈ ps.zip us, scope.names.lookup y.1 = some .local ∨ (scope.names.lookup y.1 = some .cell ∧ ((cellsFrom (s.heap.objs.size + 1) scope.names []).lookup y.1).isSome = true) := fun ⟨n, v⟩ hy => by
    rcases S.par n (List.of_mem_zip hy).1 with q | q
    · exact .inl q
    · exact .inr ⟨q, PySem.W.cellsFrom_some _ _ _ (.inl q)⟩
  refine codeAny_call_function hr.depth (KX _ _ lk) rfl S.co S.gen rfl (PySem.W.codeRec_of KX hcd) (hb _ _ _ _ ?_)
  refine wpAny_newFunctionEnv_cells S.kind hkind fun env he s1 x => ?_
  subst he
  refine ⟨lim.keeps x.toInCall.keep, codeAny_func ?_⟩
  obtain ⟨t, ht, hq⟩ := hbody A outer s H vs Q E (hr.deeper _) hsp
  have I : Inv (cxOf CX P w K mg base N qual scope f cdv A outer s H E) [] (start N vs) H s1 := inv_start S hr.hd e0 hl r x
  refine wpAny_mono (ht [] s1 (start N vs) H _ I hq) (fun fl s' hs => ?_) fun e s' hs => hs
  have fin : ∀ {σ' : St} {H' : Hp} {v : V} {u : Value}, Inv (cxOf CX P w K mg base N qual scope f cdv A outer s H E) [] σ' H' s' → RelV v u → Q v H' → CE outer P w H s Q u s' :=
    fun {σ' H' v u} J rv q => ⟨v, H', J.os, J.bare, J.base, J.hok, rv, q⟩
  cases fl with
  | ret u =>
    obtain ⟨v, σ', H', J, rv, q⟩ := hs
    exact fin J rv q
  | next =>
    obtain ⟨σ', H', J, q⟩ := hs
    exact fin (v := V.non) (u := Value.none) J rfl q
  | brk =>
    obtain ⟨_, _, _, q⟩ := hs
    exact False.elim q
  | cont =>
    obtain ⟨_, _, _, q⟩ := hs
    exact False.elim q
end L2

namespace L2
open PySem PySem.Spec PyProof.Rows
section
variable {X : Cx} {x : Str} {p pos : Pos} {e : Expr} {es : List Expr} {t : TA} {id T : String} {r : List V → Hp → VK → Prop}

noncomputable def tCB (r : List V → Hp → VK → Prop) (t : TA) : TE := fun σ H Q => t σ H fun vs H1 => r vs H1 Q
/-- f(e, ..), f a built-in function -/
theorem pe_callB (hc : CallR X (.builtin id) r) (hg : Gl X x) (hm : X.mg x = none) (hv : bootBuiltins x = some (.builtin id)) (ha : PA X (e :: es) t) (hn : x ≠ "__name__" := by decide) (hdb : (x == ("__debug__" : Str)) = false := by decide)
    (he : starEach (e :: es) X.env = (false, eval e X.env) :: starEach es X.env := by rfl) (hpl : (backTo pos (starEach es X.env)).any (·.1) = false := by rfl) : PE X (.Call (.Name x p) (e :: es) [] pos) (tCB r t) := by
  intro pins s σ H Q I h
  refine wpAny_Call_Name_kw (ld_blt I hg hm hv ?_ hn hdb)
  exact PyProof.Rows.callWith_builtin1 (thn (ha pos pins s σ H _ I h) fun us s1 ⟨vs, H1, I1, r1, q1⟩ => hc pins s1 σ H1 vs us Q I1 r1 q1) he hpl
end
end L2

namespace HT
open PySem PyProof.Rows

section
open PySem.SeqAt
open PySem.AutoSeq1 (wpAny_loadPart')
open PySem.MeetsSeq PySem.MeetsSeq2 PySem.MeetsSeq3

end

section
variable {prog : Program} {w : World} {A : Around} {E : Value → Shared → Prop} {s : Shared}

/-! ### t[a:b], not the whole -/
end
end HT

namespace L2
open PySem PySem.Spec PyProof.Rows

/-! ### the parts of a slice -/
noncomputable abbrev TO := St → Hp → (Option Int → Hp → Prop) → Prop
theorem intsAre_of {ns : List Int} : ∀ {us : List Value}, Vals (ns.map V.int) us → IntsAre us ns := by
  induction ns with
  | nil => intro us r; rw [List.map_nil] at r; cases r; exact .nil
  | cons n ns ih =>
    intro us r
    rw [List.map_cons] at r
    cases r with
    | cons r1 r2 =>
      obtain ⟨t, e⟩ := r1
      subst e
      exact .cons n t (ih r2)

section
variable {X : Cx} {e : Expr} {te : TE} {lo hi : Option Expr} {tl th : TO} {pos p2 : Pos}

/-! ### t < u, t + u -/
end
end L2

namespace L2
open PySem PySem.Spec PyProof.Rows

/-! ### places -/
/-- the place that an index of any sign means -/
noncomputable def ixN (n : Nat) (i : Int) : Option Nat := if 0 ≤ i then (if i < n then some i.toNat else none) else if -(n : Int) ≤ i then some (i + n).toNat else none
noncomputable def atI {α : Type} (xs : List α) (i : Int) : Option α := (ixN xs.length i).bind fun j => xs[j]?
theorem ixN_seq {n : Nat} {i : Int} {j : Nat} (h : ixN n i = some j) : seqIndex? i n = some j ∧ j < n ∧ -(n : Int) ≤ i ∧ i < n := by
  unfold ixN at h
  by_cases h0 : 0 ≤ i
  · rw [if_pos h0] at h
    by_cases h1 : i < n
    · rw [if_pos h1] at h
      have e : i.toNat = j := Option.some.inj h
      exact ⟨by rw [seqIndex_of h0 h1, e], by omega, by omega, h1⟩
    · rw [if_neg h1] at h; cases h
  · rw [if_neg h0] at h
    by_cases h1 : -(n : Int) ≤ i
    · rw [if_pos h1] at h
      have e : (i + n).toNat = j := Option.some.inj h
      exact ⟨by rw [seqIndex_neg (by omega) h1, e], by omega, h1, by omega⟩
    · rw [if_neg h1] at h; cases h
theorem atI_get {α : Type} {xs : List α} {i : Int} {v : α} (h : atI xs i = some v) : ∃ j, seqIndex? i xs.length = some j ∧ xs[j]? = some v ∧ j < xs.length ∧ -(xs.length : Int) ≤ i ∧ i < xs.length := by
  unfold atI at h
  cases e : ixN xs.length i with
  | none => rw [e] at h; cases h
  | some j =>
    rw [e] at h
    obtain ⟨h1, h2, h3, h4⟩ := ixN_seq e
    exact ⟨j, h1, h, h2, h3, h4⟩
theorem atI_nat {α : Type} {xs : List α} {j : Nat} {v : α} (h : xs[j]? = some v) : atI xs (j : Int) = some v := by
  have hj : j < xs.length := (List.getElem?_eq_some_iff.mp h).1
  have e : ixN xs.length (j : Int) = some j := by
    unfold ixN
    rw [if_pos (by omega), if_pos (by omega)]; simp
  unfold atI; rw [e]; exact h
theorem atI_last {α : Type} (xs : List α) (v : α) : atI (xs ++ [v]) (-1) = some v := by
  have hl : (xs ++ [v]).length = xs.length + 1 := by simp
  have e : ixN (xs ++ [v]).length (-1) = some xs.length := by
    unfold ixN
    rw [hl, if_neg (by decide), if_pos (by omega)]
    congr 1
    omega
  unfold atI
  rw [e]
  show (xs ++ [v])[xs.length]? = some v
  simp

/-! ### what may be subscripted -/
/-- what stands as an index of a plain subscript -/
noncomputable def PlainIx (b : Expr) : Prop := ∀ o i, subscripted b false o i = operate [o, i] (getItem o i)
/-- a subscript by values -/
noncomputable def IxR (X : Cx) (r : R2) : Prop :=
  ∀ (value slice : Expr) (pins : List (Addr × Obj)) (s : Shared) (σ : St) (H : Hp) (x y : V) (v u : Value) (Q : VK), Inv X pins σ H s → RelV x v → RelV y u → r x y H Q →
    subscripted slice false v u = operate [v, u] (getItem v u) → wpAny (model X.prog X.w) X.A (subscriptTail value slice v u) (EP X pins σ Q) X.xe s
/-- a call of a builtin's method by values: the receiver, the arguments -/
noncomputable def MtR (X : Cx) (id : String) (r : V → List V → Hp → VK → Prop) : Prop :=
  ∀ (pins : List (Addr × Obj)) (s : Shared) (σ : St) (H : Hp) (x : V) (xs : List V) (v : Value) (us : List Value) (Q : VK), Inv X pins σ H s → RelV x v → Vals xs us → r x xs H Q →
    wpAny (model X.prog X.w) X.A (call (.builtin id) (v :: us)) (EP X pins σ Q) X.xe s
section
variable {X : Cx} {a b : Expr} {ta tb : TE} {pos : Pos}
/-- a[b] -/
theorem pe_ix {r : R2} (hr : IxR X r) (ha : PE X a ta) (hb : PE X b tb) (hs : PlainIx b) : PE X (.Subscript a b pos) (tOp r ta tb) := by
  intro pins s σ H Q I h
  exact Subscript_ (binT ha hb I h fun v u s2 x y H2 I2 rx ry q => hr a b pins s2 σ H2 x y v u Q I2 rx ry q (hs _ _))

noncomputable def rIxL (K : PySem.W.Frag) : R2 := fun x y H Q => ∃ p xs i v, x = .ref p ∧ y = .int i ∧ SqL K H p xs ∧ atI xs i = some v ∧ Q v H
noncomputable def rIxT (K : PySem.W.Frag) : R2 := fun x y H Q => ∃ p xs i v, x = .ref p ∧ y = .int i ∧ SqT K H p xs ∧ atI xs i = some v ∧ Q v H
theorem ix_list : IxR X (rIxL X.K) := by
  intro value slice pins s σ H x y v u Q I rx ry h hs
  obtain ⟨p, xs, i, z, rfl, rfl, hq, he, q⟩ := h
  cases rx
  obtain ⟨t, rfl⟩ := ry
  obtain ⟨its, r, pl, hz⟩ := I.list hq
  obtain ⟨j, h1, h2, h3, h4, h5⟩ := atI_get he
  obtain ⟨w, ew, rw'⟩ := r.get h2
  have hl := r.length
  have hn := line63
  have fin : EP X pins σ Q w s := ⟨z, H, I, rw', q⟩
  by_cases h0 : 0 ≤ i
  · have hj : i.toNat = j := by
      rw [seqIndex_of h0 h5] at h1
      exact Option.some.inj h1
    exact item_listR pl.isList h0 (by omega) (by rw [hj]; simpa using ew) fin hs
  · have hj : (i + (its.toArray.size : Int)).toNat = j := by
      rw [seqIndex_neg (by omega) h4] at h1
      rw [List.size_toArray, ← hl]
      exact Option.some.inj h1
    exact subscriptTail_builtinR (x := w) pl.isList.typeIs slot_list_getitem.lookup
      (wpAny_getItem_list_neg (Q := fun r s' => r = w ∧ EP X pins σ Q r s') pl.isList (by omega) (by rw [List.size_toArray] <;> omega) (by omega) (by rw [hj]; simpa using ew) ⟨rfl, fin⟩) hs
theorem ix_tup : IxR X (rIxT X.K) := by
  intro value slice pins s σ H x y v u Q I rx ry h hs
  obtain ⟨p, xs, i, z, rfl, rfl, hq, he, q⟩ := h
  cases rx
  obtain ⟨t, rfl⟩ := ry
  obtain ⟨its, r, pl, hz⟩ := I.tuple hq
  obtain ⟨j, h1, h2, h3, h4, h5⟩ := atI_get he
  obtain ⟨w, ew, rw'⟩ := r.get h2
  have hl := r.length
  have hn := line63
  have fin : EP X pins σ Q w s := ⟨z, H, I, rw', q⟩
  exact subscriptTail_builtinR (x := w) pl.typeIs slot_tuple_getitem.lookup
    (getItem_tuple (j := j) (Q := fun r s' => r = w ∧ EP X pins σ Q r s') pl (by omega) (by omega) (by rw [List.size_toArray, ← hl]; exact h1) (by simpa using ew) ⟨rfl, fin⟩) hs
/-! ### xs[i] = v, any sign -/
/-! ### slices -/
/-! ### in, not in: flat items -/
noncomputable def flatV : V → Bool
  | .non => true
  | .bl _ => true
  | .int _ => true
  | .str _ => true
  | _ => false
/-- == of flat values -/
noncomputable def eqV : V → V → Bool
  | .non, .non => true
  | .bl a, .bl b => a == b
  | .bl a, .int b => (if a then 1 else 0) == b
  | .int a, .bl b => a == (if b then 1 else 0)
  | .int a, .int b => a == b
  | .str a, .str b => a == b
  | _, _ => false
theorem eqAt_V {A : Around} {s : Shared} {y x : V} {u v : Value} (ry : RelV y u) (rx : RelV x v) (fy : flatV y = true) (fx : flatV x = true) : SeqAt.EqAt A s u v (eqV y x) := by
  cases y with
  | non =>
    cases ry
    cases x with
    | non => cases rx; exact SeqAt.EqAt.same _
    | bl b => cases rx; exact SeqAt.EqAt.none_bool b
    | int b => obtain ⟨t, rfl⟩ := rx; exact SeqAt.EqAt.none_int b t
    | str b => obtain ⟨t, rfl⟩ := rx; exact SeqAt.EqAt.none_str b t
    | _ => exact absurd (show false = true from fx) Bool.false_ne_true
  | bl a =>
    cases ry
    cases x with
    | non => cases rx; exact SeqAt.EqAt.bool_none a
    | bl b => cases rx; exact SeqAt.EqAt.bool_bool a b
    | int b => obtain ⟨t, rfl⟩ := rx; exact SeqAt.EqAt.bool_int a b t
    | str b => obtain ⟨t, rfl⟩ := rx; exact SeqAt.EqAt.bool_str a b t
    | _ => exact absurd (show false = true from fx) Bool.false_ne_true
  | int a =>
    obtain ⟨t', rfl⟩ := ry
    cases x with
    | non => cases rx; exact SeqAt.EqAt.int_none a t'
    | bl b => cases rx; exact SeqAt.EqAt.int_bool a t' b
    | int b => obtain ⟨t, rfl⟩ := rx; exact SeqAt.EqAt.int_int a t' b t
    | str b => obtain ⟨t, rfl⟩ := rx; exact SeqAt.EqAt.int_str a t' b t
    | _ => exact absurd (show false = true from fx) Bool.false_ne_true
  | str a =>
    obtain ⟨t', rfl⟩ := ry
    cases x with
    | non => cases rx; exact SeqAt.EqAt.str_none a t'
    | bl b => cases rx; exact SeqAt.EqAt.str_bool a t' b
    | int b => obtain ⟨t, rfl⟩ := rx; exact SeqAt.EqAt.str_int a t' b t
    | str b => obtain ⟨t, rfl⟩ := rx; exact SeqAt.EqAt.str_str a t' b t
    | _ => exact absurd (show false = true from fx) Bool.false_ne_true
  | _ => exact absurd (show false = true from fy) Bool.false_ne_true
/-! ### len, list(x), tuple(x) of any list or tuple that is read -/
theorem call_len_seq : CallR X (.builtin "len") (fun xs H Q => ∃ p ys, xs = [.ref p] ∧ (SqL X.K H p ys ∨ SqT X.K H p ys) ∧ Q (.int ys.length) H) := by
  intro pins s σ H xs us Q I r h
  obtain ⟨p, ys, rfl, hq, q⟩ := h
  obtain ⟨u, rfl, rx⟩ := vals1 r
  cases rx
  have hn := line63
  rcases hq with hq | hq
  · obtain ⟨its, r', pl, hz⟩ := I.list hq
    have hlen := r'.length
    exact Calls.call_len_list pl.isList (by simp only [List.size_toArray] <;> omega) ⟨.int ys.length, H, I.tok _, ⟨s.toks + 1, by rw [List.size_toArray, hlen]⟩, q⟩
  · obtain ⟨its, r', pl, hz⟩ := I.tuple hq
    have hlen := r'.length
    exact len_tuple pl (by simp only [List.size_toArray] <;> omega) ⟨.int ys.length, H, I.tok _, ⟨s.toks + 1, by rw [List.size_toArray, hlen]⟩, q⟩
/-! ### the call of a builtin's method: o.m(..) -/
/-- the value is of that builtin type -/
noncomputable def tyV (K : PySem.W.Frag) (T : String) (x : V) (H : Hp) : Prop := match x with
  | .str _ => T = "str"
  | .int _ => T = "int"
  | .ref p => (T = "list" ∧ ∃ xs, SqL K H p xs) ∨ (T = "tuple" ∧ ∃ o, K.lookup p = some o ∧ o.cls = .type "tuple" ∧ o.dict = none) ∨
      (T = "dict" ∧ ((∃ kvs, H p = some (.dK kvs)) ∨ ∃ kvs, H p = some (.dT kvs))) ∨ (T = "set" ∧ ∃ S n, H p = some (.set S n))
  | _ => False
theorem tyV_is {pins : List (Addr × Obj)} {σ : St} {H : Hp} {s : Shared} {T : String} {x : V} {v : Value} (I : Inv X pins σ H s) (r : RelV x v) (ty : tyV X.K T x H) :
    s.TypeIs v T ∧ ∀ a, v = .ref a → ∃ ob, s.heap.get? a = some ob ∧ ob.dict = none := by
  cases x with
  | str z =>
    obtain ⟨t, rfl⟩ := r
    cases (show T = "str" from ty)
    exact ⟨typeIs_str s z t, fun _ e => nomatch e⟩
  | int i =>
    obtain ⟨t, rfl⟩ := r
    cases (show T = "int" from ty)
    exact ⟨typeIs_int s i t, fun _ e => nomatch e⟩
  | ref p =>
    cases r
    rcases ty with ⟨rfl, xs, hq⟩ | ⟨rfl, o, hk, hc, hd⟩ | ⟨rfl, hk⟩ | ⟨rfl, S, n, hk⟩
    · obtain ⟨its, _, pl, _⟩ := I.list hq
      refine ⟨pl.isList.typeIs, fun a e => ?_⟩
      cases e
      obtain ⟨o, n, e, c, hd, _⟩ := pl
      exact ⟨o, e, hd⟩
    · refine ⟨⟨o, I.kIn p o hk, hc⟩, fun a e => ?_⟩
      cases e
      exact ⟨o, I.kIn _ o hk, hd⟩
    · have z : ∃ o, s.heap.get? p = some o ∧ o.ExactDict := by
        rcases hk with ⟨kvs, hk⟩ | ⟨kvs, hk⟩
        · obtain ⟨_, _, _, _, o, _, _, e, ex, _⟩ := I.hok p _ hk
          exact ⟨o, e, ex⟩
        · obtain ⟨_, _, _, _, o, _, _, e, ex, _⟩ := I.hok p _ hk
          exact ⟨o, e, ex⟩
      obtain ⟨o, e, ex⟩ := z
      refine ⟨⟨o, e, ex.1⟩, fun a e2 => ?_⟩
      cases e2
      exact ⟨o, e, ex.2.1⟩
    · obtain ⟨o, _, _, _, e, ex, _⟩ := I.hok p _ hk
      refine ⟨⟨o, e, ex.1⟩, fun a e2 => ?_⟩
      cases e2
      exact ⟨o, e, ex.2.1⟩
  | _ => exact False.elim ty
noncomputable def tBM (K : PySem.W.Frag) (T : String) (r : V → List V → Hp → VK → Prop) (to : TE) (t : TA) : TE := fun σ H Q => to σ H fun x H1 => tyV K T x H1 ∧ t σ H1 fun xs H2 => r x xs H2 Q
variable {o e : Expr} {es : List Expr} {to : TE} {t : TA} {name : Str} {apos cpos : Pos} {T id : String} {r : V → List V → Hp → VK → Prop}
theorem pe_bm (pa : PlainAttrs T) (slot : Slot T name id) (hty : typeOf (.builtin id) = pure (.type "method_descriptor")) (hm : MtR X id r) (ho : PE X o to) (ha : PA X (e :: es) t)
    (hbase : attributeBase o name X.env (eval o X.env) = eval o X.env := by rfl)
    (hfew : ((backTo cpos (starEach (e :: es) X.env)).all (fun x => !x.1) && (backToKw cpos (keywordEach [] X.env)).all (fun x => x.1.isSome)
      && decide ((e :: es).length + ([] : List Keyword).length + (if ([] : List Keyword).isEmpty then 0 else 1) < 30)) = true := by rfl)
    (hline : (apos.endLine == cpos.line) = true := by rfl) (hs : starEach (e :: es) X.env = (false, eval e X.env) :: starEach es X.env := by rfl) (hplain : (backTo cpos (starEach es X.env)).any (·.1) = false := by rfl) :
    PE X (.Call (.Attribute o name apos) (e :: es) [] cpos) (tBM X.K T r to t) := by
  intro pins s σ H Q I h
  refine wpAny_Call_method_late hbase hfew hline rfl (thn (ho pins s σ H _ I h) fun v s1 ⟨x, H1, I1, r1, ty, q1⟩ => ?_)
  obtain ⟨h1, h2⟩ := tyV_is I1 r1 ty
  refine ⟨T, id, pa, slot, hty, h1, h2, ?_⟩
  have hA := ha cpos pins s1 σ H1 _ I1 q1
  rw [hs] at hA ⊢
  refine Calls.callWith_builtin (by show (false || (backTo cpos (starEach es X.env)).any (·.1)) = false; rw [hplain] <;> rfl) (Calls.evalArgs_plain ?_)
  exact thn hA fun us s2 ⟨vs, H2, I2, r2, q2⟩ => hm pins s2 σ H2 x vs v us Q I2 r1 r2 q2
/- xs.append(e), list.index on a module's tuple .. are MtR facts of 06m -/
end
end L2

namespace L2
open PySem PySem.Spec PyProof.Rows

noncomputable def MtM (X : Cx) (id : String) (r : V → List V → Hp → VK → Prop) : Prop :=
  ∀ (pins : List (Addr × Obj)) (s : Shared) (σ : St) (H : Hp) (x : V) (xs : List V) (v : Value) (us : List Value) (Q : VK), Inv X pins σ H s → RelV x v → Vals xs us → r x xs H Q →
    wpAny (model X.prog X.w) X.A (call (.builtin id) (v :: us)) (EP X pins σ Q) X.xe s

/-! ### lists of values -/
theorem Vals.one : ∀ {x : V} {us : List Value}, Vals [x] us → ∃ u, us = [u] ∧ RelV x u
  | _, _, .cons r .nil => ⟨_, rfl, r⟩
section
variable {X : Cx} {pins : List (Addr × Obj)} {σ : St} {H : Hp} {s : Shared} {l b : Addr} {xs ys zs : List V}

/-! ### the two steps: a tracked list is rewritten, a new list is laid -/
theorem Inv.lset {its its' : List Value} {n : Nat} {f : Array Value → Array Value} {t' : Nat} (I : Inv X pins σ H s) (hH : H l = some (.lst xs))
    (e : s.heap.get? l = some { cls := .type "list", data := .seq its.toArray n }) (hf : f its.toArray = its'.toArray) (hv : Vals ys its') (hz : ys.length ≤ sizeLine) :
    Inv X pins σ (upd H l (.lst ys)) { s with heap := s.heap.update l (Obj.mapSeq f), toks := t' } := by
  have q := PySem.IsL.update e f
  rw [hf] at q
  refine I.write (x := l) (e := l) (by rw [hH]; exact trivial) (.inl rfl) (fun b' u hb hu => (Heap.get?_update_other s.heap (Obj.mapSeq f) (Ne.symm hb)).trans hu) ⟨_, q⟩ ?_
  exact ⟨hz, its', _, hv, q⟩
theorem Inv.lnew {its : List Value} {t' : Nat} (I : Inv X pins σ H s) (hv : Vals ys its) (hz : ys.length ≤ sizeLine) :
    Inv X pins σ (upd H s.heap.objs.size (.lst ys)) { s with heap := s.heap.push { cls := .type "list", data := .seq its.toArray }, toks := t' } :=
  I.laid (fun _ _ q => Heap.get?_push_of_some _ q) (Nat.le_refl _) ⟨hz, its, 0, hv, Heap.get?_push_size _ rfl⟩
theorem Inv.fresh (I : Inv X pins σ H s) : H s.heap.objs.size = none := I.hok.fresh (Nat.le_refl _)
theorem Inv.lstM (I : Inv X pins σ H s) (hH : H l = some (.lst xs)) : xs.length ≤ sizeLine ∧ ∃ (its : List Value) (n : Nat), Vals xs its ∧ xs.length = its.length ∧ s.heap.get? l = some { cls := .type "list", data := .seq its.toArray n } := by
  obtain ⟨z, its, n, r, e⟩ := I.hok l _ hH
  exact ⟨z, its, n, r, r.length, e⟩

theorem notLongL {n : Nat} (h : n ≤ sizeLine) : Builtin.List.listTooLong n = false := by
  unfold Builtin.List.listTooLong
  exact decide_eq_false (by omega)
end

section
variable {X : Cx}

/-! ### methods -/
noncomputable def rAppend : V → List V → Hp → VK → Prop := fun x vs H Q => ∃ l xs y, x = .ref l ∧ vs = [y] ∧ H l = some (.lst xs) ∧ xs.length < sizeLine ∧ Q .non (upd H l (.lst (xs ++ [y])))
theorem mt_append : MtM X "list.append" rAppend := by
  intro pins s σ H x vs v us Q I rx rv h
  obtain ⟨l, xs, y, rfl, rfl, hH, hz, q⟩ := h
  cases rx
  obtain ⟨u, rfl, ru⟩ := rv.one
  obtain ⟨z, its, n, r, hl, e⟩ := I.lstM hH
  refine call_meets F.slot_list_append ⟨_, e, rfl⟩ F.entry_list_append (F.args_list_append_2 _ _) (PySem.list_append l its.toArray n u (by rw [List.size_toArray]; omega)) ⟨e, ?_⟩
  refine ⟨.non, _, I.lset (its' := its ++ [u]) hH e (by simp) (r.append (.cons ru .nil)) ?_, rfl, q⟩
  rw [List.length_append, List.length_singleton]
  omega

noncomputable def rExtend : V → List V → Hp → VK → Prop := fun x vs H Q => ∃ l b xs zs, x = .ref l ∧ vs = [.ref b] ∧ H l = some (.lst xs) ∧ H b = some (.lst zs) ∧ xs.length + zs.length ≤ sizeLine ∧ Q .non (upd H l (.lst (xs ++ zs)))
theorem mt_extend : MtM X "list.extend" rExtend := by
  intro pins s σ H x vs v us Q I rx rv h
  obtain ⟨l, b, xs, zs, rfl, rfl, hH, hB, hz, q⟩ := h
  cases rx
  obtain ⟨u, rfl, ru⟩ := rv.one
  cases ru
  obtain ⟨z, its, n, r, hl, e⟩ := I.lstM hH
  obtain ⟨z2, its2, n2, r2, hl2, e2⟩ := I.lstM hB
  have hsz : its.toArray.size + its2.toArray.size ≤ sizeLine := by rw [List.size_toArray, List.size_toArray]; omega
  have hlong : ¬ (!its.toArray.isEmpty && Builtin.List.listTooLong (its.toArray.size + its2.toArray.size)) = true := by
    rw [notLongL hsz, Bool.and_false]
    exact Bool.false_ne_true
  refine call_meets F.slot_list_extend ⟨_, e, rfl⟩ F.entry_list_extend (F.args_list_extend_2 _ _)
    (AutoSeq1.list_extend_list_list_0 l its.toArray n b its2.toArray n2 hlong (by rw [List.size_toArray]; omega) (by omega)) ⟨e, e2, ?_⟩
  refine ⟨.non, _, I.lset (its' := its ++ its2) hH e (by simp) (r.append r2) ?_, rfl, q⟩
  rw [List.length_append]
  omega

/-! ### list + list, list += list, list * int -/
noncomputable def rCat : R2 := fun x y H Q => ∃ l b xs zs, x = .ref l ∧ y = .ref b ∧ H l = some (.lst xs) ∧ H b = some (.lst zs) ∧ xs.length + zs.length ≤ sizeLine ∧ ∀ p, H p = none → Q (.ref p) (upd H p (.lst (xs ++ zs)))
theorem op_cat : OpR X (binaryOp .Add) rCat := by
  intro pins s σ H x y v u Q I rx ry h
  obtain ⟨l, b, xs, zs, rfl, rfl, hH, hB, hz, q⟩ := h
  cases rx
  cases ry
  obtain ⟨z, its, n, r, hl, e⟩ := I.lstM hH
  obtain ⟨z2, its2, n2, r2, hl2, e2⟩ := I.lstM hB
  refine PySem.P.add_list e e2 ?_ (by rw [List.size_toArray, List.size_toArray]; omega)
  have ea : its.toArray ++ its2.toArray = (its ++ its2).toArray := by simp
  rw [ea]
  exact ⟨.ref _, _, I.lnew (t' := s.toks) (r.append r2) (by rw [List.length_append]; omega), rfl, q _ I.fresh⟩
/-! ### del xs[i] -/
end

/-! ### xs[a:b] = ys -/
section
variable {prog : Program} {w : World} {A : Around} {E : Value → Shared → Prop} {s : Shared}
set_option maxRecDepth 100000 in
end

section
variable {X : Cx}
end
end L2

namespace Att
open PySem PySem.W PySem.Calls PyProof.Rows

/-! ### the script -/
theorem ints_of_wellAll {P : Params} {h : Heap} : ∀ (ns : List Int) (vs : List Value), WellAll P h vs (ns.map WData.int) → IntsAre vs ns := by
  intro ns
  induction ns with
  | nil =>
    intro vs w
    rw [List.map_nil] at w
    cases w
    exact .nil
  | cons n ns ih =>
    intro vs w
    rw [List.map_cons] at w
    cases w with
    | cons a b =>
      cases a
      exact .cons _ _ (ih _ b)

theorem script_of {l : OpenLaw} {n : Nat} (hn : l.most = some n) {P : Params} {h : Heap} {args : List WData} {vals : List Value}
    (hpre : l.row.toRowW.claim.pre args = true) (hwl : WellAll P h vals args) :
    ∃ a vs ns, vals = [Value.ref a] ∧ args = [WData.list (ns.map WData.int)] ∧ h.get? a = some { cls := .type "list", data := .seq vs.toArray } ∧ IntsAre vs ns ∧ ns.length ≤ n := by
  have hsh : WShape.hasAll [] args [.list .int] = true := (pre_splitW hpre).1
  have hc : l.pre.holds [] { args := args } = true := (pre_splitW hpre).2
  obtain ⟨d, r, rfl, h1, h2⟩ := hasAllW_cons hsh
  obtain rfl := hasAllW_nil h2
  obtain ⟨xs, rfl, h3⟩ := hasW_list h1
  obtain ⟨ns, rfl⟩ := items_int h3
  have hlen : ns.length ≤ n := by
    unfold OpenLaw.pre at hc
    have h4 : (WTm.not (.lt (.lit (.int (n : Int))) (.len (.arg 0)))).holds [] { args := [.list (ns.map .int)] } = true := by
      have h4 := (holds_andW hc).1
      rw [hn] at h4
      exact h4
    have h5 := condW_of h4 (w_not (w_lt w_lit (w_len_list (w_arg rfl))))
    rw [List.length_map] at h5
    refine Nat.le_of_not_lt fun q => ?_
    have q' : (n : Int) < ((ns.length : Nat) : Int) := by omega
    first
      | (rw [decide_eq_true q'] at h5; exact absurd h5 (by decide))
      | (simp at h5; omega)
  cases hwl with
  | cons w1 w2 =>
    cases w2
    cases w1 with
    | list ho hall => exact ⟨_, _, ns, rfl, rfl, ho, ints_of_wellAll ns _ hall, hlen⟩

theorem post_true (l : OpenLaw) (args : List WData) : l.row.toRowW.claim.post args (.bool true) args = true :=
  postW_of (r := l.row.toRowW) (X := (true == true))
    (show WShape.has [] (.bool true) .bool = true by first | rfl | decide | simp [WShape.has, WShape.arms, WShape.armsAll])
    (show (WTm.eq .res (.lit (.bool true))).value [] { args := args, res := some (.bool true), after := args } = some (.bool (true == true)) from w_eq_bool (w_res rfl) w_lit) rfl

/-! ### the attachment: holds_open's last premise (the goal 'hc' behind k_head) from a wpAny of the law's body -/
/-- the same from a codeAny of the CALL (for a layer whose function contracts speak of calls) -/
theorem attach_call {l : OpenLaw} {n : Nat} {q : Program} {loose : List Str} {XP : (Str → Option Value) → Heap → Prop} {YP : World → Heap → Prop} {d : DefRec}
    (hn : l.most = some n) (hdf : d.params.defaults = [])
    (call : ∀ (w : World) (s₀ s₁ : Shared) (mg mb : Str → Option Value) (fa : Addr) (o : Obj) (pm cd doc : Value) (a : Addr) (vs : List Value) (ns : List Int),
      Ground q loose [] XP w s₀ mg mb s₁.heap → YP w s₁.heap →
      s₁.heap.get? fa = some o → o.data = .func (docDef d.name d.params d.body d.scope pm cd doc) → s₁.heap.CodeRec cd d.name → mg d.name = some (.ref fa) →
      s₁.heap.get? a = some { cls := .type "list", data := .seq vs.toArray } → IntsAre vs ns → ns.length ≤ n → s₁.gens = #[] →
      codeAny (model l.prog w) callerA (.call (.ref fa) ⟨[.ref a], []⟩) (fun r s' => r = .ok (.ret (.bool true)) ∧ OldK s₁.heap s'.heap ∧ s'.os = s₁.os ∧ AllBare s'.gens) s₁) :
    WalkO q loose XP YP l.row.toRowW d [] (fun f vs => PySem.call f vs) := by
  intro w s₀ s₁ mg mb G Y fa o pm cd doc dV kV ho hd hcd hD hmg hg args vals as hpre hlay hrd hwl hlo
  obtain rfl : dV = .none := Dflts.none hD hdf
  obtain rfl : kV = .none := Dflts.noKw hD
  obtain ⟨a, vs, ns, rfl, rfl, hobj, hints, hlen⟩ := script_of hn hpre hwl
  refine enter_call (codeAny_mono (call w s₀ s₁ mg mb fa o pm cd doc a vs ns G Y ho (fd_plain hd) hcd hmg hobj hints hlen hg) fun r s' hq => ?_)
  obtain ⟨rfl, h2, h3, h4⟩ := hq
  exact ⟨.inl ⟨.bool true, .bool true, [], rfl, fun _ => rfl, .bool true, post_true l _, fun _ => ⟨List.Pairwise.nil, fun _ hm => (nomatch hm)⟩⟩, h2, h3, h4⟩

/-! ### rules over ANY heap (no ledger) from facts about the written part K: the library's own take a ledger (News) for what they write -/
section
variable {prog : Program} {w : World} {A : Around} {E : Value → Shared → Prop} {s : Shared} {K : Frag}

/-! the whole heap as the ledger: makes every rule that writes through a ledger a rule over any heap -/
noncomputable def ledger (h : Heap) (L d : Addr) : List (Addr × Obj) := (List.range h.objs.size).filterMap fun a => if a = L ∨ a = d then none else (h.get? a).map fun o => (a, o)
end
end Att

namespace L2
open PySem PySem.Spec PyProof.Rows

theorem vals_ints : ∀ {vs : List Value} {ns : List Int}, IntsAre vs ns → Vals (ns.map V.int) vs
  | _, _, .nil => .nil
  | _, _, .cons n t h => .cons ⟨t, rfl⟩ (vals_ints h)

/-- nothing is tracked but the script, known to the object (or it is an object of the module) -/
noncomputable def Only (H : Hp) : Prop := ∀ b, H b = none ∨ ∃ o xs, H b = some (.frz o (.lst xs))

/-- THE HEAD: the law's promise, at the heap behind the top. F, the promise of the law's def, may use that base is part of the heap (so K.In base, base.Ns mainGlobals mg stand in Mod) -/
theorem law_call {P : Program} {w : World} {K : PySem.W.Frag} {mg mb : Str → Option Value} {CX : CXT} {k : Nat} {fa a : Addr} {fd : FuncData} {x : Str} {sp : Sp} {s₁ : Shared} {vs : List Value} {ns : List Int}
    (KX : K.In s₁.heap) (hns : s₁.heap.Ns mainGlobals mg) (hb : s₁.heap.Ns builtinsNs mb) (hbb : ∀ x : Str, x ≠ "__name__" → mb x = bootBuiltins x) (hlim : s₁.heap.NoLimit) (hg : s₁.gens = #[])
    (ha : s₁.heap.get? a = some { cls := .type "list", data := .seq vs.toArray }) (hi : IntsAre vs ns) (hl : ns.length ≤ sizeLine) (hr : Room k callerA)
    (F : ∀ base : Heap, K.In base → base.Ns mainGlobals mg → FnOk P w K mg base CX k fa fd [x] sp) (hbind : ∀ (s : Shared) (u : Value), BindsTo s fd ⟨[u], []⟩ [(x, u)])
    (hsp : ∀ H : Hp, Only H → SqL K H a (ns.map V.int) → sp [.ref a] H (fun v _ => v = .bl true) fun _ _ _ => False)
    (hCX : ∀ H e s', CX [] H s₁ (fun _ _ _ => False) e s' → False) :
    codeAny (model P w) callerA (.call (.ref fa) ⟨[.ref a], []⟩) (fun r s' => r = .ok (.ret (.bool true)) ∧ OldK s₁.heap s'.heap ∧ s'.os = s₁.os ∧ AllBare s'.gens) s₁ := by
  have rv := vals_ints hi
  have lenV := hi.length
  -- from an abstract heap in which nothing but the script may be tracked
  have core : ∀ H : Hp, Only H → SqL K H a (ns.map V.int) → HOk P w H s₁.heap → (∀ b, H b ≠ none → b = a) → (H a ≠ none → K.lookup a = none) →
      codeAny (model P w) callerA (.call (.ref fa) ⟨[.ref a], []⟩) (fun r s' => r = .ok (.ret (.bool true)) ∧ OldK s₁.heap s'.heap ∧ s'.os = s₁.os ∧ AllBare s'.gens) s₁ := by
    intro H hO hS hok hA hK
    have base_of : ∀ {b : Addr} {o : Obj}, s₁.heap.get? b = some o → H b = none → (hidT s₁.heap H).get? b = some o := fun e n => hidT_get e n
    have noA : ∀ {b : Addr} {o : Obj} {es : Array DictEntry} {ep : Nat}, s₁.heap.get? b = some o → o.data = .dict es ep → H b = none := fun {b o es ep} e d => by
      cases q : H b with
      | none => rfl
      | some u =>
        have e' : b = a := hA b (by rw [q]; simp)
        subst e'
        rw [ha] at e; cases e
        have d' : Data.seq vs.toArray _ = Data.dict es ep := d
        cases d'
    have nsK : ∀ {b : Addr} {m : Str → Option Value}, s₁.heap.Ns b m → (hidT s₁.heap H).Ns b m := fun {b m} ⟨o, es, ep, e, d, r⟩ => ⟨o, es, ep, base_of e (noA e d), d, r⟩
    have hKb : K.In (hidT s₁.heap H) := fun b o e => base_of (KX b o e) (by
      cases q : H b with
      | none => rfl
      | some u =>
        have e' : b = a := hA b (by rw [q]; simp)
        subst e'
        rw [hK (by rw [q]; simp)] at e; cases e)
    have hM : Mod K mg (hidT s₁.heap H) := ⟨hKb, nsK hns, ⟨mb, nsK hb, hbb⟩, let ⟨mc, h1, h2⟩ := hlim; ⟨mc, nsK h1, h2⟩⟩
    have e0 : Env0 P w K mg (hidT s₁.heap H) callerA [] s₁ H := ⟨rfl, hM, fun b o e => of_hidT e, Nat.le_of_eq (hidT_size _ _), trivial, fun b hb => absurd (show b ∈ ([] : List Addr) from hb) (by simp), hok, .of_eq hg⟩
    refine codeAny_mono ((F _ hKb (nsK hns)).run callerA [] s₁ H ⟨[.ref a], []⟩ [.ref a] [.ref a] _ _ hr e0 (hbind s₁ (.ref a)) (.cons rfl .nil) (hsp H hO hS)) fun r s' h => ?_
    cases r with
    | error e => exact (hCX H e s' h).elim
    | ok fl =>
      cases fl with
      | next => exact False.elim h
      | brk => exact False.elim h
      | cont => exact False.elim h
      | ret u =>
        obtain ⟨v, H', os, bare, un, hok', r', q⟩ := h
        have q' : v = .bl true := q
        subst q'
        obtain rfl : u = Value.bool true := r'
        refine ⟨rfl, OldK.of_keep fun b o e => ?_, os, bare⟩
        cases q : H b with
        | none => exact un.keep b o e q (by intro z; exact absurd (show b ∈ ([] : List Addr) from z) (by simp)) (by simp)
        | some u =>
          rcases hO b with z | ⟨ob, xs, z⟩
          · rw [q] at z; cases z
          · have z2 := un.frzs b ob _ z
            obtain ⟨e1, _⟩ := hok b _ z
            obtain ⟨e2, _⟩ := hok' b _ z2
            rw [e] at e1; cases e1
            exact e2
  cases hk : K.lookup a with
  | some o =>
    -- the script is one of the module's own objects
    have e := KX a o hk
    rw [ha] at e
    cases e
    refine core (fun _ => none) (fun _ => .inl rfl) (.inr ⟨_, vs.toArray, _, hk, rfl, rfl, rfl, by rw [List.size_toArray, lenV]; exact hl, by simpa using rv⟩) (fun b u z => by have z' : (none : Option HO) = some u := z; cases z') (fun b z => absurd rfl z) fun z => absurd rfl z
  | none =>
    refine core (fun b => if b = a then some (.frz { cls := .type "list", data := .seq vs.toArray } (.lst (ns.map V.int))) else none) (fun b => ?_) (.inl (.inr ⟨{ cls := .type "list", data := .seq vs.toArray }, if_pos rfl⟩)) (fun b u z => ?_) (fun b z => ?_) fun _ => hk
    · by_cases hb : b = a
      · exact .inr ⟨_, _, if_pos hb⟩
      · exact .inl (if_neg hb)
    · by_cases hb : b = a
      · have z' := (if_pos hb).symm.trans z
        cases z'
        subst hb
        exact ⟨ha, by rw [List.length_map]; exact hl, vs, _, rv, ha⟩
      · have z' := (if_neg hb).symm.trans z
        cases z'
    · by_cases hb : b = a
      · exact hb
      · exact absurd (if_neg hb) z
end L2

namespace L2
open PySem PySem.Spec PyProof.Rows

noncomputable abbrev KOf {K : PySem.W.Frag} {h : Heap} (_ : K.In h) : PySem.W.Frag := K

/-- the goal that k_head leaves (case hc), from the law's promise. F gives the function object fd (K's own) once, then the promise over every base -/
theorem walk_of {l : PySem.W.OpenLaw} {n k : Nat} {q : Program} {loose : List Str} {XP : (Str → Option Value) → Heap → Prop} {YP : World → Heap → Prop} {d : DefRec} {K : Params → PySem.W.Frag} {CX : World → CXT} {sp : World → Sp} {x : Str}
    (hn : l.most = some n) (hn2 : n ≤ sizeLine) (hdf : d.params.defaults = []) (hr : Room k callerA)
    (hY : ∀ (w : World) (h : Heap), YP w h → (K w.params).In h)
    (F : ∀ (w : World) (mg : Str → Option Value) (fa : Addr) (h : Heap), (K w.params).In h → h.Ns mainGlobals mg → mg d.name = some (.ref fa) →
      ∃ fd : FuncData, (∀ (s : Shared) (u : Value), BindsTo s fd ⟨[u], []⟩ [(x, u)]) ∧
        ∀ base : Heap, (K w.params).In base → base.Ns mainGlobals mg → FnOk l.prog w (K w.params) mg base (CX w) k fa fd [x] (sp w))
    (hsp : ∀ (w : World) (H : Hp) (a : Addr) (ns : List Int), ns.length ≤ n → Only H → SqL (K w.params) H a (ns.map V.int) → sp w [.ref a] H (fun v _ => v = .bl true) fun _ _ _ => False)
    (hCX : ∀ (w : World) (H : Hp) (s : Shared) (e : Value) (s' : Shared), CX w [] H s (fun _ _ _ => False) e s' → False) :
    PySem.W.WalkO q loose XP YP l.row.toRowW d [] (fun f vs => PySem.call f vs) := by
  refine Att.attach_call hn hdf fun w s₀ s₁ mg mb fa o pm cd doc a vs ns G Y ho hd hcd hmg hobj hints hlen hg => ?_
  have KX := hY w _ Y
  obtain ⟨fd, hb, hF⟩ := F w mg fa _ KX G.T.g hmg
  exact law_call KX G.T.g G.T.b G.T.builtins G.T.nolimit hg hobj hints (Nat.le_trans hlen hn2) hr hF hb (fun H hO hS => hsp w H a ns hlen hO hS) fun H e s' => hCX w H s₁ e s'
end L2

/- THE LAST THEOREM (shape; LID, My.* are yours):
   My.Adr: a structure of the addresses that your layer names (classes, functions); My.Txt K t: a structure (Prop) of the equations over K;
   My.txt_mk : {K} {implicit addresses ..} (e1 : nsIn K mainGlobals "law" = some (some (.ref f))) (e2 : K.lookup f = some ⟨oc, od, .func (fnOf "law" "law" params body scope dV kV doc pm an cdv ct), sl⟩) (e3 : codeIn K cdv "law" = true) .. : ∃ t, My.Txt K t

set_option maxRecDepth 100000 in
set_option maxHeartbeats 0 in
theorem PySem.Challenge.cw_LID_holds : PySem.Challenge.rw_LID.Holds := by
  w_on; o_law; k_head; (case hw => w_witness2)
  k_fill
  refine L2.walk_of (l := PySem.Challenge.rw_LID) (n := 63) (k := 40) (x := "script") (CX := fun w => ..) (sp := fun _ => My.sp_law) rfl (by decide) rfl ⟨rfl, by decide, by decide⟩ (fun w h Y => PySem.W.kIn_of Y) ?F ?S ?C
  case F =>
    intro w mg fa h KX G hmg
    have T : ∃ t, My.Txt (L2.KOf KX) t := by
      dsimp only [L2.KOf]                          -- K must stand as «<heap const> w.params» for k_is
      refine' My.txt_mk ?e1 ?e2 ?e3 ..
      (case e1 => PySem.W.k_is)                    -- in the order: a name -> its address -> its object -> its parts
      (case e2 => PySem.W.k_is)
      ..
    obtain ⟨t, T⟩ := T
    have e0 := hmg.symm.trans (PySem.W.mg_of KX G T.law)
    cases e0                                       -- fa is the law's own address
    exact ⟨_, fun s u => .of_eq rfl, fun base kb nb => My.law_fn T kb nb⟩     -- if «.of_eq rfl» comes too early: refine' ⟨_, ?b, fun base kb nb => My.law_fn T kb nb⟩; exact fun s u => .of_eq rfl
  case S => exact fun w H a ns hl hO hS => ..
  case C => exact ..
(the tactic k_is has no namespace: write k_is) -/

/-! SHORT WORDS over the layer: a def of the text, its body, what a loop and a test want. -/
namespace L2
open PySem PySem.Spec PyProof.Rows

/-! ### the text by places -/
/-- the j-th statement of a class's body -/
noncomputable def inClass (s : Stmt) (j : Nat) : Stmt := match s with
  | .ClassDef _ _ _ body _ _ _ _ _ _ _ => body.getD j (.Pass ⟨0, 0, 0, 0⟩)
  | _ => .Pass ⟨0, 0, 0, 0⟩
noncomputable def defArgs (s : Stmt) : Arguments := match s with
  | .FunctionDef _ a _ _ _ _ _ _ _ _ => a
  | _ => { posonlyargs := [], args := [], vararg := none, kwonlyargs := [], kw_defaults := [], kwarg := none, defaults := [] }
noncomputable def defBody (s : Stmt) : List Stmt := match s with
  | .FunctionDef _ _ b _ _ _ _ _ _ _ => b
  | _ => []
noncomputable def defScope (s : Stmt) : Scope := match s with
  | .FunctionDef _ _ _ _ _ _ sc _ _ _ => sc
  | _ => { kind := .function, names := [], isGenerator := false, isCoroutine := false }

/-! ### no exception leaves a def -/
noncomputable abbrev CX0 : CXT := fun _ _ _ _ _ _ => False
noncomputable abbrev E0 : XK := fun _ _ _ => False
/-! ### a def (or method) of the text as it stands behind the top -/
structure Fun (K : PySem.W.Frag) (x qual : Str) (st : Stmt) (f : Addr) (fd : FuncData) : Prop where
  ex : ∃ (oc : Value) (od : Option Addr) (kV doc pm : Value) (an : Option Addr) (cdv ct : Value) (osl : Array (Option Value)),
    fd = PySem.W.fnOf x qual (defArgs st) (defBody st) (defScope st) .none kV doc pm an cdv ct ∧ K.lookup f = some ⟨oc, od, .func fd, osl⟩ ∧ PySem.W.codeIn K cdv qual = true
  kp : PySem.W.keepIn K (.ref f) = true
section
variable {P : Program} {w : World} {K : PySem.W.Frag} {mg : Str → Option Value} {base : Heap}
/-- THE RULE for a def: its body as a term of rules, and the reading of that term -/
theorem Fun.ok {x qual : Str} {st : Stmt} {f : Addr} {fd : FuncData} {N ps : List Str} {k : Nat} {sp : Sp} (F : Fun K x qual st f fd) (S : FnScope N ps (defScope st)) (len : ∀ vs H Q E, sp vs H Q E → vs.length = ps.length)
    (hbody : ∀ (cdv : Value) (A : Around) (outer : List Env) (s : Shared) (H : Hp) (vs : List V) (Q : VK) (E : XK), Room k (A.deeper (envOfC qual (defScope st) s.heap.objs.size f cdv)) → sp vs H Q E →
      ∃ t, PSs (cxOf CX0 P w K mg base N qual (defScope st) f cdv A outer s H E).nox (defBody st) t ∧ t { nx := fun _ H' => Q .non H', rt := Q } (start N vs) H) : FnOk P w K mg base CX0 (k + 1) f fd ps sp := by
  obtain ⟨oc, od, kV, doc, pm, an, cdv, ct, osl, rfl, lk, hcd⟩ := F.ex
  refine fn_of lk hcd S len fun A outer s H vs Q E hr hsp => ?_
  obtain ⟨t, h, q⟩ := hbody cdv A outer s H vs Q E hr hsp
  exact ⟨t, h.nox, q⟩
/-- how its arguments bind (no defaults): h is «fun _ _ _ _ _ _ us hl => match us, hl with | [_, _], _ => rfl», one _ a parameter -/
theorem Fun.binds {x qual : Str} {st : Stmt} {f : Addr} {fd : FuncData} {ps : List Str} (F : Fun K x qual st f fd)
    (h : ∀ (kV doc pm : Value) (an : Option Addr) (cdv ct : Value) (us : List Value), us.length = ps.length → bindArgs (PySem.W.fnOf x qual (defArgs st) (defBody st) (defScope st) .none kV doc pm an cdv ct) ⟨us, []⟩ = pure (ps.zip us)) : Binds K fd ps [] := by
  obtain ⟨oc, od, kV, doc, pm, an, cdv, ct, osl, rfl, lk, hcd⟩ := F.ex
  exact .all (h kV doc pm an cdv ct)
theorem fun_mk {x qual : Str} {st : Stmt} {f : Addr} {oc : Value} {od an : Option Addr} {osl : Array (Option Value)} {kV doc pm cdv ct : Value} (l : K.lookup f = some ⟨oc, od, .func (PySem.W.fnOf x qual (defArgs st) (defBody st) (defScope st) .none kV doc pm an cdv ct), osl⟩)
    (c : PySem.W.codeIn K cdv qual = true) (k : PySem.W.keepIn K (.ref f) = true) : Fun K x qual st f (PySem.W.fnOf x qual (defArgs st) (defBody st) (defScope st) .none kV doc pm an cdv ct) := ⟨⟨oc, od, kV, doc, pm, an, cdv, ct, osl, rfl, l, c⟩, k⟩
end
theorem hu_of {A : Around} {k : Nat} (hr : Room k A) : A.units + 1 < cLine := Nat.lt_of_le_of_lt (Nat.add_le_add_left (by decide : 1 ≤ 64) _) hr.units
/-! ### expressions in short: the name that stands in the i-th slot -/
section
variable {X : Cx}
theorem pv (i : Nat) {x : Str} {pos : Pos} (hN : X.N[i]? = some x := by rfl) (hv : Vis X.env.scope x := by first | exact Or.inl rfl | exact Or.inr (Or.inl rfl) | exact Or.inr (Or.inr rfl)) (hd : (x == ("__debug__" : Str)) = false := by decide)
    (hcd : (x == ("__classdict__" : Str)) = false := by decide) : PE X (.Name x pos) (tVar i) := pe_var hN hv hd hcd
end

/-! ### tests -/
theorem iteF {A B : Prop} (h : B) : if false = true then A else B := by
  rw [if_neg Bool.false_ne_true]
  exact h
theorem iteT {A B : Prop} (h : A) : if true = true then A else B := by
  rw [if_pos rfl]
  exact h
theorem ite2 {c A B : Prop} [Decidable c] (h1 : c → A) (h2 : ¬ c → B) : if c then A else B := by
  by_cases h : c
  · rw [if_pos h]
    exact h1 h
  · rw [if_neg h]
    exact h2 h
theorem iteNS {c A B : Prop} [Decidable c] (hc : c) (h : B) : if (!decide c) = true then A else B := by
  rw [decide_eq_true hc]
  exact iteF h

/-! ### heaps -/
/-- all that was tracked is as it was -/
noncomputable def Same (H H' : Hp) : Prop := ∀ b o, H b = some o → H' b = some o
theorem Same.refl (H : Hp) : Same H H := fun _ _ h => h
theorem Same.trans {H H1 H2 : Hp} (a : Same H H1) (b : Same H1 H2) : Same H H2 := fun c o h => b c o (a c o h)
theorem Same.free {H H' : Hp} (e : Same H H') {l : Addr} (h : H' l = Option.none) : H l = Option.none := by
  cases q : H l with
  | none => rfl
  | some o =>
    rw [e l o q] at h
    cases h
theorem Same.seq {K : PySem.W.Frag} {H H' : Hp} {a : Addr} {xs : List V} (e : Same H H') (h : SqL K H a xs) : SqL K H' a xs := by
  rcases h with (h | ⟨o, h⟩) | h
  · exact .inl (.inl (e _ _ h))
  · exact .inl (.inr ⟨o, e _ _ h⟩)
  · exact .inr h

end L2

set_option Elab.async false
set_option linter.all false
set_option maxRecDepth 100000
set_option maxHeartbeats 4000000
/-! Own rules over the hand layer: // by any small divisor, sum, isinstance, texts (loop, slice, join, times), comprehensions. -/
namespace L2
open PySem PySem.Spec PyProof.Rows
section
variable {X : Cx}

/-! ### // by a divisor of any usual size -/
noncomputable def CDivL (i j : Int) : Prop := 0 < j ∧ j.natAbs.log2 < 9000
theorem op_fdivL : OpR X (binaryOp .FloorDiv) (rI CDivL fun i j => .int (i / j)) := opI fun i j _ _ _ _ _ hc q => by
  have h1 : (0 : Int) < j := hc.1
  exact floordiv_int (by omega) (by rw [Int.fdiv_eq_ediv_of_nonneg i (by omega)]; exact q) (.inl (PyProof.noPylong_of_log2 hc.2))

/-! ### sum of a list of ints -/
theorem call_sum (hc : X.calm = true) : CallR X (.builtin "sum") (fun xs H Q => ∃ (p : Addr) (ns : List Int), xs = [.ref p] ∧ SqL X.K H p (ns.map V.int) ∧ Q (.int ns.sum) H) := by
  intro pins s σ H xs us Q I r h
  obtain ⟨p, ns, rfl, hl, q⟩ := h
  obtain ⟨u, rfl, ru⟩ := vals1 r
  cases ru
  obtain ⟨its, r', pl, hz⟩ := I.list hl
  have hi : IntsAre its ns := intsAre_of r'
  have hall : AllInts its.toArray := hi.allInts
  obtain ⟨ys, e⟩ := hall.items
  have hl' : s.heap.IsList p (intItems ys) := by rw [← e]; exact pl.isList
  refine sum_intListG (I.ok.hd hc) hl' fun h' tk t' hk => ?_
  have e2 : preSum (numAt ys) ys.size = ns.sum := by
    have e3 : numsOf (intItems ys).toList = ns := by rw [← e]; exact hi.numsOf
    rw [preSum_eq, List.take_of_length_le (by simp), ← e3, nums_intItems]
  rw [e2]
  exact ⟨.int ns.sum, H, I.kept hk, ⟨_, rfl⟩, q⟩

/-! ### isinstance of one class -/
theorem call_isinst : CallR X (.builtin "isinstance") (fun xs H Q => ∃ x c cv t b, xs = [x, c] ∧ (∀ u, RelV c u → u = cv) ∧ TyOf X.K H x t ∧ PySem.W.kitOne X.K t cv = some b ∧ Q (.bl b) H) := by
  intro pins s σ H xs us Q I r h
  obtain ⟨x, c, cv, t, b, rfl, hcv, ty, e, q⟩ := h
  obtain ⟨u, w', rfl, r1, r2⟩ := vals2 r
  rw [hcv w' r2]
  exact isinst_ok I r1 ty e fun tk => ⟨.bl b, H, I.tok _, rfl, q⟩
theorem relTy {n : String} : ∀ u, RelV (.ty n) u → u = Value.type n := fun _ h => h

/-! ### texts -/
end

/-! ### comprehensions -/
theorem forIn_collect {α β : Type} {l : List α} {f : α → β → Sem (ForInStep β)} (g : β → α → β) (c : β) (h : ∀ x ∈ l, ∀ c, f x c = pure (.yield (g c x))) :
    forIn l c f = pure (l.foldl g c) := by
  induction l generalizing c with
  | nil => rfl
  | cons x l ih =>
    rw [List.forIn_cons, h x List.mem_cons_self, pure_bind]
    exact ih _ fun y hy => h y (List.mem_cons_of_mem _ hy)
noncomputable def clOf (cells : List (Str × Addr)) (names : List (Str × NameKind)) (acc : List (Str × Addr)) : List (Str × Addr) :=
  names.foldl (fun cs y => if y.2 == .free then (y.1, (cells.lookup y.1).getD 0) :: cs else cs) acc
theorem closure_eq {scope : Scope} {env : Env} (h : ∀ y ∈ scope.names, y.2 = .free → ∃ c, env.cells.lookup y.1 = some c) : closureFor scope env = pure (clOf env.cells scope.names []) := by
  simp only [closureFor]
  rw [forIn_collect (fun cs y => if y.2 == .free then (y.1, (env.cells.lookup y.1).getD 0) :: cs else cs) [] fun x hx c => ?_]
  · rfl
  · obtain ⟨n, k⟩ := x
    by_cases hk : k = .free
    · subst hk
      obtain ⟨a, ea⟩ := h (n, .free) hx rfl
      have ea' : env.cells.lookup n = some a := ea
      simp only [beq_self_eq_true, if_true, cellOf, ea', pure_bind, Option.getD_some]
    · have hb : (k == NameKind.free) = false := by simpa using hk
      simp only [hb, Bool.false_eq_true, if_false]
theorem lookup_mem {α : Type} : ∀ {l : List (Str × α)} {x : Str} {c : α}, l.lookup x = some c → (x, c) ∈ l
  | [], _, _, h => by simp at h
  | (y, d) :: r, x, c, h => by
    rw [List.lookup_cons] at h
    cases hx : x == y with
    | true =>
      rw [hx] at h
      have e : x = y := by simpa using hx
      subst e
      cases h
      exact List.mem_cons_self
    | false =>
      rw [hx] at h
      exact List.mem_cons_of_mem _ (lookup_mem h)
theorem mem_lookup {α : Type} : ∀ {l : List (Str × α)} {x : Str} {c : α}, (x, c) ∈ l → ∃ d, l.lookup x = some d
  | [], _, _, h => by cases h
  | (y, d) :: r, x, c, h => by
    rw [List.lookup_cons]
    cases hx : x == y with
    | true => exact ⟨d, rfl⟩
    | false =>
      rcases List.mem_cons.mp h with e | h
      · cases e; simp at hx
      · exact mem_lookup h
theorem clOf_mem {cells : List (Str × Addr)} : ∀ {names : List (Str × NameKind)} {acc : List (Str × Addr)} {p : Str × Addr}, p ∈ clOf cells names acc ↔ p ∈ acc ∨ ((p.1, NameKind.free) ∈ names ∧ p.2 = (cells.lookup p.1).getD 0)
  | [], acc, p => by simp [clOf]
  | (n, k) :: r, acc, p => by
    show p ∈ clOf cells r (if k == .free then (n, (cells.lookup n).getD 0) :: acc else acc) ↔ _
    rw [clOf_mem (names := r)]
    by_cases hk : k = .free
    · subst hk
      simp only [beq_self_eq_true, if_true, List.mem_cons]
      constructor
      · rintro ((rfl | h) | h)
        · exact .inr ⟨.inl rfl, rfl⟩
        · exact .inl h
        · exact .inr ⟨.inr h.1, h.2⟩
      · rintro (h | ⟨h | h, e⟩)
        · exact .inl (.inr h)
        · obtain ⟨a, b⟩ := p
          cases h
          exact .inl (.inl (by rw [show b = _ from e]))
        · exact .inr ⟨h, e⟩
    · have hb : (k == NameKind.free) = false := by simpa using hk
      simp only [hb, Bool.false_eq_true, if_false, List.mem_cons]
      constructor
      · rintro (h | h)
        · exact .inl h
        · exact .inr ⟨.inr h.1, h.2⟩
      · rintro (h | ⟨h | h, e⟩)
        · exact .inl h
        · cases h; exact absurd rfl hk
        · exact .inr ⟨h, e⟩
theorem relabel_mem {scope : Scope} {env : Env} {x : Str} {k : NameKind} (h : (relabel scope env).names.lookup x = some k) : ∃ k', (x, k') ∈ scope.names ∧ (k' = k ∨ (k' = .free ∧ k = .cell)) := by
  have m := lookup_mem h
  unfold relabel at m
  obtain ⟨⟨n, k'⟩, hm, e⟩ := List.mem_map.mp m
  dsimp only at e
  split at e
  · rename_i hc
    rw [Bool.and_eq_true, Bool.and_eq_true] at hc
    have e1 : n = x := congrArg Prod.fst e
    have e2 : NameKind.cell = k := congrArg Prod.snd e
    subst e1 e2
    exact ⟨k', hm, .inr ⟨by simpa using hc.1.1, rfl⟩⟩
  · have e1 : n = x := congrArg Prod.fst e
    have e2 : k' = k := congrArg Prod.snd e
    subst e1 e2
    exact ⟨k', hm, .inl rfl⟩

/-- the context of a comprehension's block -/
noncomputable def subCx (X : Cx) (scope : Scope) (N : List Str) (cl : List (Str × Addr)) (C : Addr) (s : Shared) (H : Hp) (fp : List Addr) (xe : Value → Shared → Prop) : Cx :=
  { X with N := N, s₀ := s, H₀ := H, env := compEnvC scope cl C X.env, outer := X.stack, stack := X.stack, ex := fp, fn := fun _ => false, pn := [], xe := xe }
/-- which names of the block are the def's (and where they stand there) -/
inductive Caps (X : Cx) (scope : Scope) : List Str → List (Option Nat) → Prop where
  | nil : Caps X scope [] []
  | own {x : Str} {N : List Str} {ix : List (Option Nat)} (r : Caps X scope N ix) : Caps X scope (x :: N) (none :: ix)
  | cap {x : Str} {j : Nat} {N : List Str} {ix : List (Option Nat)} (h1 : X.N[j]? = some x) (h2 : X.env.kindOf x = some .cell) (h3 : (relabel scope X.env).names.lookup x = some .cell) (r : Caps X scope N ix) : Caps X scope (x :: N) (some j :: ix)
noncomputable def capS (ix : List (Option Nat)) (σ : St) : St := ix.map fun o => match o with
  | none => none
  | some j => (σ[j]?).getD none
theorem Caps.get {X : Cx} {scope : Scope} {σ : St} : ∀ {N : List Str} {ix : List (Option Nat)}, Caps X scope N ix → ∀ (i : Nat) (x : Str) (v : V), N[i]? = some x → (capS ix σ)[i]? = some (some v) →
    ∃ j : Nat, X.N[j]? = some x ∧ σ[j]? = some (some v) ∧ X.env.kindOf x = some .cell ∧ (relabel scope X.env).names.lookup x = some .cell
  | _, _, .nil, i, x, v, h, _ => by simp at h
  | _, _, .own r, 0, x, v, _, h => by simp [capS] at h
  | _, _, .own r, i + 1, x, v, h1, h2 => r.get i x v (by simpa using h1) (by simpa [capS] using h2)
  | _, _, .cap (j := j) e1 e2 e3 r, 0, x, v, h1, h2 => by
    simp at h1
    subst h1
    refine ⟨j, e1, ?_, e2, e3⟩
    simp only [capS, List.map_cons, List.getElem?_cons_zero, Option.some.injEq] at h2
    cases q : σ[j]? with
    | none => rw [q] at h2; cases h2
    | some o => rw [q] at h2; simp only [Option.getD_some] at h2; rw [h2]
  | _, _, .cap e1 e2 e3 r, i + 1, x, v, h1, h2 => r.get i x v (by simpa using h1) (by simpa [capS] using h2)
theorem Caps.length {X : Cx} {scope : Scope} {N : List Str} {ix : List (Option Nat)} (h : Caps X scope N ix) : ix.length = N.length := by
  induction h with
  | nil => rfl
  | own _ ih => simp [ih]
  | cap _ _ _ _ ih => simp [ih]
/-- a store that knows at least as much -/
noncomputable def Ext (a b : St) : Prop := b.length = a.length ∧ ∀ (i : Nat) v, a[i]? = some (some v) → b[i]? = some (some v)
theorem Ext.set {a : St} {i : Nat} {v : V} (h : a[i]? = some none) : Ext a (a.set i (some v)) := by
  refine ⟨by simp, fun j w e => ?_⟩
  by_cases hj : j = i
  · subst hj; rw [h] at e; cases e
  · rw [List.getElem?_set_ne (Ne.symm hj)]; exact e
theorem Ext.trans {a b c : St} (h : Ext a b) (h' : Ext b c) : Ext a c := ⟨h'.1.trans h.1, fun i v e => h'.2 i v (h.2 i v e)⟩

/-- the tests of a comprehension -/
noncomputable def PTs (X : Cx) (ifs : List Expr) (t : TT) : Prop :=
  ∀ (pins : List (Addr × Obj)) (s : Shared) (σ : St) (H : Hp) (Q : Bool → Hp → Prop), Inv X pins σ H s → t σ H Q →
    wpAny (model X.prog X.w) X.A (forIn ifs true fun c r => if r = true then do let ok ← isTrue c X.env (eval c X.env); pure (ForInStep.yield ok) else pure (ForInStep.yield r)) (TP X pins σ Q) X.xe s
noncomputable def ttNil : TT := fun _ H Q => Q true H
theorem pts_nil {X : Cx} : PTs X [] ttNil := fun pins s σ H Q I h => wpAny_tests_nil ⟨H, I, h⟩
/-- the turns of a comprehension: W is what holds between two of them -/
noncomputable def CompW (J : It) (g : TG) (tt : TT) (te : TE) (σ0 : St) (D : Addr) (Q : VK) (H1 : Hp) : Prop := ∃ W : Nat → Nat → List V → Hp → Prop, (∃ m, W 0 m [] (upd H1 D (.lst []))) ∧ ∀ i m ys H, W i m ys H →
  (J.stop i H ∧ Q (.ref D) H) ∨ (J.go i H ∧ ∀ x H', J.yld i H x H' → g x σ0 H' fun σ2 H2 => Ext σ0 σ2 ∧ tt σ2 H2 fun b H3 =>
    if b = true then te σ2 H3 fun v H4 => H4 D = some (.lst ys) ∧ ys.length < sizeLine ∧ ∃ m', m' < m ∧ W (i + 1) m' (ys ++ [v]) (upd H4 D (.lst (ys ++ [v]))) else ∃ m', m' < m ∧ W (i + 1) m' ys H3)
noncomputable def tComp (wi : TI) (g : TG) (tt : TT) (te : TE) (ix : List (Option Nat)) : TE := fun σ H Q => wi σ H fun J H1 => ∀ D, H1 D = none → CompW J g tt te (capS ix σ) D Q H1

section
variable {prog : Program} {w : World} {A : Around} {R : Result → Shared → Prop} {s : Shared}
theorem comp_loop {elt target iter : Expr} {ifs : List Expr} {scope : Scope} {pos : Pos} {it acc : Value} {env : Env} (I : Nat → Shared → Prop)
    (turn : ∀ n s, I n s → wpAny (model prog w) A (pyNext it) (fun r s₁ => match r with
      | none => R (.ok .next) s₁
      | some v => wpAny (model prog w) A (letOwnedTupleGo target it v) (fun _ s₁' => wpAny (model prog w) A (assign target env v) (fun _ s₂ =>
          wpAny (model prog w) A (forIn ifs true fun c r => if r = true then do let ok ← isTrue c env (eval c env); pure (ForInStep.yield ok) else pure (ForInStep.yield r)) (fun ok s₃ =>
            if ok = true then wpAny (model prog w) A (eval elt env) (fun x s₄ =>
              wpAny (model prog w) A (call (.builtin "list.append") [acc, x]) (fun _ s₅ => ∃ m, m < n ∧ I m s₅) (notedBy (model prog w) A env fun e s' => R (.error e) s') s₄) (notedBy (model prog w) A env fun e s' => R (.error e) s') s₃
            else ∃ m, m < n ∧ I m s₃) (notedBy (model prog w) A env fun e s' => R (.error e) s') s₂) (notedBy (model prog w) A env fun e s' => R (.error e) s') s₁') (notedBy (model prog w) A env fun e s' => R (.error e) s') s₁) (notedBy (model prog w) A env fun e s' => R (.error e) s') s)
    (n : Nat) (h : I n s) : codeAny (model prog w) A (.compLoop (.ListComp elt [⟨target, iter, ifs, 0⟩] scope pos) 0 it acc env) R s := by
  refine codeAny_loop rfl I (fun n s hI => ?_) n h
  show wpAny _ A ((compTurn (.ListComp elt [⟨target, iter, ifs, 0⟩] scope pos) 0 it acc env).onRaise (fun x => do noteFrame x env; theTreesLotGoes x)) _ _ s
  refine wpAny_noted ?_
  rw [compTurn_list]
  refine wpAny_bind (wpAny_standAt (wpAny_bind (wpAny_mono (turn n s hI) (fun r s₁ h₁ => ?_) fun _ _ h' => h')))
  cases r with
  | none => exact wpAny_pure h₁
  | some v =>
    refine wpAny_bind (wpAny_mono h₁ (fun _ s₁' h₁' => ?_) fun _ _ h' => h')
    refine wpAny_bind (wpAny_mono h₁' (fun _ s₂ h₂ => wpAny_bind (wpAny_mono h₂ (fun ok s₃ h₃ => ?_) fun _ _ h' => h')) fun _ _ h' => h')
    cases ok with
    | false => exact wpAny_pure ⟨rfl, h₃⟩
    | true =>
      exact wpAny_bind (wpAny_bind (wpAny_mono h₃ (fun x s₄ h₄ => wpAny_bind (wpAny_mono h₄ (fun _ s₅ h₅ => wpAny_pure (wpAny_pure ⟨rfl, h₅⟩)) fun _ _ h' => h')) fun _ _ h' => h'))
end

section
variable {X : Cx}
noncomputable def noCell (sc : Scope) : Bool := sc.names.all fun y => y.2 != .cell
noncomputable def freeOk (sc : Scope) (env : Env) : Bool := sc.names.all fun y => y.2 != .free || env.kindOf y.1 == some .cell
noncomputable def namesOk (sc : Scope) : Bool := sc.names.all fun y => y.2 != .local || sc.names.lookup y.1 == some .local
/-- what is known of the block's own namespace behind the block -/
structure BlockEnd (X : Cx) (pins : List (Addr × Obj)) (σ : St) (H : Hp) (C : Addr) (s : Shared) : Prop where
  inv : Inv X pins σ H s
  ns : ∃ m, s.heap.Ns C m
  free : H C = none
  loc : C ≠ X.env.locals
  young : X.s₀.heap.objs.size ≤ C
  cell : ∀ x c, X.env.cells.lookup x = some c → c ≠ C
  pin : ∀ p ∈ X.pn ++ pins, p.1 ≠ C
theorem BlockEnd.gone {pins : List (Addr × Obj)} {σ : St} {H : Hp} {C : Addr} {s : Shared} (B : BlockEnd X pins σ H C s) {h' : Heap} (hs : Heap.SameBut C s.heap h') : Inv X pins σ H { s with heap := h' } :=
  B.inv.turned (t' := s.toks) (it := C) (fun b o hb e => hs.extBut b o hb e) B.free B.loc (.inr B.young) B.cell B.pin
theorem comp_core {elt tg iter : Expr} {ifs : List Expr} {scope : Scope} {pos pos' : Pos} {N : List Str} {ix : List (Option Nat)} {wi : TI} {g : TG} {tt : TT} {te : TE} {use : Option (Value → Sem Unit)} {Qv : Value → Shared → Prop}
    (hc : X.calm = true) (hi : PI X tg iter wi) (hk : scope.kind = .function) (hcell0 : noCell scope = true) (hfree0 : freeOk scope X.env = true) (hnames0 : namesOk scope = true) (caps : Caps X scope N ix)
    (hg : ∀ cl C s H fp xe, PG (subCx X scope N cl C s H fp xe) tg g) (ht : ∀ cl C s H fp xe, PTs (subCx X scope N cl C s H fp xe) ifs tt) (he : ∀ cl C s H fp xe, PE (subCx X scope N cl C s H fp xe) elt te)
    (hs : ∀ x, foldedSetIterable iter X.env x = pure x)
    {pins : List (Addr × Obj)} {s : Shared} {σ : St} {H : Hp} {Q : VK} (I : Inv X pins σ H s) (h : tComp wi g tt te ix σ H Q)
    (fin : ∀ (C D : Addr) (H6 : Hp) (s6 : Shared), BlockEnd X pins σ H6 C s6 → Q (.ref D) H6 → compPost (model X.prog X.w) X.A X.xe use Qv (.ref D) C (.ok .next) s6) :
    wpAny (model X.prog X.w) X.A (comprehension (.ListComp elt [⟨tg, iter, ifs, 0⟩] scope pos) scope X.env pos' (newList []) false (eval iter X.env) use) Qv X.xe s := by
  have hcell : ∀ y ∈ scope.names, y.2 ≠ .cell := fun y hy e => by
    have := List.all_eq_true.mp hcell0 y hy
    rw [e] at this; exact absurd this (by decide)
  have hfree : ∀ y ∈ scope.names, y.2 = .free → X.env.kindOf y.1 = some .cell := fun y hy e => by
    have := List.all_eq_true.mp hfree0 y hy
    rw [e] at this; simpa using this
  have hnames : ∀ y ∈ scope.names, y.2 = .local → scope.names.lookup y.1 = some .local := fun y hy e => by
    have := List.all_eq_true.mp hnames0 y hy
    rw [e] at this; simpa using this
  have hcl : ∀ y ∈ scope.names, y.2 = .free → ∃ c, X.env.cells.lookup y.1 = some c := fun y hy e => I.ok.has y.1 (.inl (hfree y hy e))
  refine wpAny_comprehension_free (use := use) rfl hs (closure_eq hcl) hk hnames ?_
  generalize ecl : clOf X.env.cells scope.names [] = cl
  -- the cells of the block are the def's
  have cl1 : ∀ x c, cl.lookup x = some c → X.env.cells.lookup x = some c := fun x c e => by
    have m := lookup_mem e
    rw [← ecl] at m
    rcases clOf_mem.mp m with z | ⟨z, z'⟩
    · cases z
    · obtain ⟨a, ea⟩ := hcl _ z rfl
      have ea' : X.env.cells.lookup x = some a := ea
      have z2 : c = (X.env.cells.lookup x).getD 0 := z'
      rw [ea', Option.getD_some] at z2
      rw [ea', z2]
  have cl2 : ∀ x, (x, NameKind.free) ∈ scope.names → ∃ c, cl.lookup x = some c := fun x hx => by
    have m : (x, (X.env.cells.lookup x).getD 0) ∈ cl := by rw [← ecl]; exact clOf_mem.mpr (.inr ⟨hx, rfl⟩)
    exact mem_lookup m
  refine thn (hi pins s σ H _ I h) fun v s1 h1 => thn h1 fun itv s2 h2 => ?_
  obtain ⟨it, fp, tn, J, H2, e, I2, T, st2, f2, body⟩ := h2
  subst e
  refine wpAny_newObj_type (wpAny_newFunctionEnv hcell (by intro y hy; simp at hy) (fun h₁ hns₁ hsb₁ => ?_) hk)
  dsimp only at hns₁ hsb₁ ⊢
  have hD : H2 s2.heap.objs.size = none := I2.hok.fresh (Nat.le_refl _)
  obtain ⟨W, ⟨m0, w0⟩, turn⟩ := body _ hD
  have I3 : Inv X pins σ (upd H2 s2.heap.objs.size (.lst [])) { s2 with heap := s2.heap.push { cls := .type "list", dict := none, data := .seq ([] : List Value).toArray } } :=
    I2.laid (t' := s2.toks) (fun b o e => Heap.get?_push_of_some _ e) (Nat.le_refl _) ⟨Nat.zero_le _, [], 0, .nil, Heap.get?_push_size _ rfl⟩
  generalize hs3 : ({ s2 with heap := s2.heap.push { cls := .type "list", dict := none, data := .seq ([] : List Value).toArray } } : Shared) = s3 at I3
  have es3 : s2.heap.push { cls := .type "list", dict := none, data := .seq ([] : List Value).toArray } = s3.heap := by rw [← hs3]
  rw [es3] at hns₁ hsb₁ ⊢
  generalize hD' : s2.heap.objs.size = D at *
  generalize hH3 : upd H2 D (.lst []) = H3 at *
  have szC : s3.heap.objs.size = D + 1 := by rw [← es3, Heap.size_push, hD']
  -- what was, is
  have old : ∀ b o, s3.heap.get? b = some o → h₁.get? b = some o := fun b o e => hsb₁.extBut b o (Nat.ne_of_lt (Heap.lt_size e)) (Heap.get?_push_of_some _ e)
  have fpl : ∀ b ∈ fp, b < D := fun b hb => by
    obtain ⟨o, e, _⟩ := T.obj 0 _ st2 b hb
    rw [← hD']; exact Heap.lt_size e
  have fpD : ∀ b ∈ fp, H3 b = none := fun b hb => by
    rw [← hH3, upd_ne (Nat.ne_of_lt (fpl b hb))]; exact (f2 b hb).1
  have fstk : ∀ b ∈ fp, b ∉ frs X.stack := fun b hb z => by
    obtain ⟨_, f1, f3, _⟩ := f2 b hb
    rcases List.mem_cons.mp (I2.stkSub b z) with e | e
    · exact f1 e
    · exact f3 e
  let E' : Value → Shared → Prop := notedBy (model X.prog X.w) X.A (compEnvC scope cl s3.heap.objs.size X.env) fun e s' => compPost (model X.prog X.w) X.A X.xe use Qv (.ref D) s3.heap.objs.size (.error e) s'
  have ok' : (subCx X scope N cl s3.heap.objs.size s3 H3 fp E').Ok := by
    refine { mod := I.ok.mod, kind := ?_, glob := I.ok.glob, blt := I.ok.blt, above := Nat.le_refl _, inj := ?_, has := ?_, cab := ?_, hd := I.ok.hd, frames := I.ok.frames, stk := .inl rfl, exf := ?_, bs := I3.bs, bsz := ?_, noex := ?_, exfs := fstk, funs := I3.stack, frf := I3.stkFree }
    · show (relabel scope X.env).kind = .function
      exact hk
    · exact fun x y c e1 e2 => I.ok.inj x y c (cl1 x c e1) (cl1 y c e2)
    · intro x hx
      have hx' : (relabel scope X.env).names.lookup x = some .cell ∨ (relabel scope X.env).names.lookup x = some .free := hx
      have : (x, NameKind.free) ∈ scope.names := by
        rcases hx' with e | e
        · obtain ⟨k', hm, z | ⟨z, _⟩⟩ := relabel_mem e
          · subst z; exact absurd rfl (hcell _ hm)
          · subst z; exact hm
        · obtain ⟨k', hm, z | ⟨z, z'⟩⟩ := relabel_mem e
          · subst z; exact hm
          · cases z'
      exact cl2 x this
    · intro x c z; cases z
    · intro b hb
      refine ⟨fun z => ?_, fun x c e => (f2 b hb).2.2.2.2.1 x c (cl1 x c e)⟩
      have lt := fpl b hb
      have z' : b = s3.heap.objs.size := z
      rw [z', szC] at lt
      exact absurd lt (Nat.not_lt.mpr (Nat.le_succ D))
    · exact Nat.le_trans I3.ok.bsz I3.sz
    · intro b o e hb
      rcases (f2 b hb).2.2.2.1 with z | z
      · exact I.ok.noex b o e z
      · exact absurd (Nat.lt_of_lt_of_le (Heap.lt_size e) (Nat.le_trans I.ok.bsz z)) (Nat.lt_irrefl _)
  have I4 : ∀ tk, Inv (subCx X scope N cl s3.heap.objs.size s3 H3 fp E') [] (capS ix σ) H3 { s3 with heap := h₁, toks := tk } := fun tk => by
    refine ⟨ok', rfl, I3.bare, Un.kept old, ⟨_, hns₁, fun i x v e1 e2 e3 => ?_⟩, fun x c e => ?_, ?_, fun x c e => I3.freeC x c (cl1 x c e), fun p hp => (by cases hp), I3.hok.kept old, ?_⟩
    · obtain ⟨j, j1, j2, j3, j4⟩ := caps.get i x v e1 e2
      obtain ⟨m, hn, hl⟩ := I3.loc
      obtain ⟨u, r, l⟩ := hl j x v j1 j2 (.inr (.inl j3))
      refine ⟨u, r, .inr ⟨.inl j4, ?_⟩⟩
      rcases l with ⟨l, _⟩ | ⟨_, c, ec, hcell⟩
      · have l' : X.env.kindOf x = some .local := l
        rw [j3] at l'; cases l'
      · obtain ⟨k', hm, z | ⟨z, _⟩⟩ := relabel_mem j4
        · subst z; exact absurd rfl (‹∀ y ∈ scope.names, y.2 ≠ .cell› _ hm)
        · subst z
          obtain ⟨c', ec'⟩ := cl2 x hm
          have := cl1 x c' ec'
          rw [ec] at this; cases this
          obtain ⟨o, ho, hd⟩ := hcell
          exact ⟨c, ec', o, old _ _ ho, hd⟩
    · obtain ⟨v, o, ho, hd⟩ := I3.cell x c (cl1 x c e)
      exact ⟨v, o, old _ _ ho, hd⟩
    · exact I3.hok.fresh (Nat.le_refl _)
    · show (capS ix σ).length = N.length
      rw [← caps.length]; simp [capS]
  have st4 : tn 0 h₁ := T.keep 0 _ _ st2 fun b hb o e => old b o (by rw [← es3]; exact Heap.get?_push_of_some _ e)
  -- the block's end
  have fin6 : ∀ (s6 : Shared) (H6 : Hp), Inv (subCx X scope N cl s3.heap.objs.size s3 H3 fp E') [] (capS ix σ) H6 s6 → Q (.ref D) H6 →
      compPost (model X.prog X.w) X.A X.xe use Qv (.ref D) s3.heap.objs.size (.ok .next) s6 := fun s6 H6 I6 q => by
    obtain ⟨m, hn, _⟩ := I6.loc
    refine fin s3.heap.objs.size D H6 s6 ⟨I3.call' (s' := s6) (ch := fp) I6.os I6.base I6.hok I6.bare ?_, ⟨m, hn⟩, I6.free, ?_, I3.sz, ?_, ?_⟩ q
    · intro b hb
      obtain ⟨_, f1, _, f3, f4, f5⟩ := f2 b hb
      exact ⟨f3, f1, f4, f5⟩
    · exact Nat.ne_of_gt I3.lt
    · intro x c e z
      obtain ⟨v, o, ho, _⟩ := I3.cell x c e
      exact absurd (Heap.lt_size ho) (by rw [z]; exact Nat.lt_irrefl _)
    · intro p hp z
      exact absurd (Heap.lt_size (I3.pin p hp).1) (by rw [z]; exact Nat.lt_irrefl _)
  -- the loop
  have loop : ∀ s4 : Shared, s4 = { s3 with heap := h₁, toks := s2.toks + ([] : List (Str × Value)).length } →
      codeAny (model X.prog X.w) X.A (.compLoop (.ListComp elt [⟨tg, iter, ifs, 0⟩] scope pos) 0 (.ref it) (.ref D) (compEnvC scope cl s3.heap.objs.size X.env)) (compPost (model X.prog X.w) X.A X.xe use Qv (.ref D) s3.heap.objs.size) s4 := by
    rintro s4 rfl
    refine comp_loop (fun n s' => ∃ i ys H', Inv (subCx X scope N cl s3.heap.objs.size s3 H3 fp E') [] (capS ix σ) H' s' ∧ tn i s'.heap ∧ (∀ b ∈ fp, H' b = none) ∧ W i n ys H') ?_ m0 ⟨0, [], H3, I4 _, st4, fpD, w0⟩
    rintro n s5 ⟨i, ys, H5, I5, st5, fr5, w5⟩
    have stat : ∀ {H' : Hp}, (∀ b ∈ fp, H' b = none) → ∀ b ∈ fp, FpOk (subCx X scope N cl s3.heap.objs.size s3 H3 fp E') [] H' b := fun hn b hb => by
      refine ⟨hn b hb, fun z => ?_, fstk b hb, .inl hb, fun x c e => (f2 b hb).2.2.2.2.1 x c (cl1 x c e), fun p hp => (by cases hp)⟩
      have lt := fpl b hb
      have z' : b = s3.heap.objs.size := z
      rw [z', szC] at lt
      exact absurd lt (Nat.not_lt.mpr (Nat.le_succ D))
    rcases turn i n ys H5 w5 with ⟨stop, q⟩ | ⟨go, step⟩
    · refine thn (T.done (subCx X scope N cl s3.heap.objs.size s3 H3 fp E') rfl rfl rfl hc i [] s5 _ H5 E' I5 (stat fr5) st5 stop) fun r s6 ⟨hr, I6⟩ => ?_
      subst hr
      exact fin6 s6 H5 I6 q
    · refine thn (T.item (subCx X scope N cl s3.heap.objs.size s3 H3 fp E') rfl rfl rfl hc i [] s5 _ H5 E' I5 (stat fr5) st5 go) fun r s6 ⟨u, hr, h6⟩ => ?_
      subst hr
      refine thn h6 fun _ s7 ⟨x, H7, I7, r7, y7, st7, fr7⟩ => ?_
      have I7' := I7.pinned (stat fr7) (T.obj _ _ st7)
      refine thn (hg cl s3.heap.objs.size s3 H3 fp E' _ s7 _ H7 x u _ I7' r7 (step x H7 y7)) fun _ s8 ⟨σ8, H8, I8, ext, q8⟩ => ?_
      have again : ∀ {σ9 : St} {H9 : Hp} {s9 : Shared} {m' : Nat} {zs : List V}, Ext (capS ix σ) σ9 → Inv (subCx X scope N cl s3.heap.objs.size s3 H3 fp E') ([] ++ pinsAt fp s7.heap) σ9 H9 s9 → m' < n → W (i + 1) m' zs H9 →
          ∃ m, m < n ∧ ∃ i ys H', Inv (subCx X scope N cl s3.heap.objs.size s3 H3 fp E') [] (capS ix σ) H' s9 ∧ tn i s9.heap ∧ (∀ b ∈ fp, H' b = none) ∧ W i m ys H' := fun {σ9 H9 s9 m' zs} ex I9 hm w9 => by
        refine ⟨m', hm, i + 1, zs, H9, (I9.unpinned).weak ex.1.symm ex.2, T.keep _ _ _ st7 fun b hb o e => (I9.pin (b, o) (List.mem_append_right _ (List.mem_append_right _ (mem_pinsAt hb e)))).1, fun b hb => ?_, w9⟩
        obtain ⟨o, e, d⟩ := T.obj _ _ st7 b hb
        exact (I9.pin (b, o) (List.mem_append_right _ (List.mem_append_right _ (mem_pinsAt hb e)))).2.1
      refine thn (ht cl s3.heap.objs.size s3 H3 fp E' _ s8 σ8 H8 _ I8 q8) fun ok s9 ⟨H9, I9, q9⟩ => ?_
      cases ok with
      | false =>
        obtain ⟨m', hm, w9⟩ := q9
        exact again ext I9 hm w9
      | true =>
        refine thn (he cl s3.heap.objs.size s3 H3 fp E' _ s9 σ8 H9 _ I9 q9) fun u10 s10 ⟨v10, H10, I10, r10, hDl, hlt, m', hm, w10⟩ => ?_
        refine thn (mt_append (X := subCx X scope N cl s3.heap.objs.size s3 H3 fp E') _ s10 σ8 H10 (.ref D) [v10] (.ref D) [u10] (fun _ H' => H' = upd H10 D (.lst (ys ++ [v10]))) I10 rfl (.cons r10 .nil) ⟨D, ys, v10, rfl, rfl, hDl, hlt, rfl⟩) fun _ s11 ⟨_, H11, I11, _, e11⟩ => ?_
        subst e11
        exact again ext I11 hm w10
  exact codeAny_compStart_list (loop _ (by rw [← hs3])) (T.self _ 0 _ _ _ st4 (loop _ (by rw [← hs3])))

/-- a comprehension as a value -/
theorem pe_comp {elt tg iter : Expr} {ifs : List Expr} {scope : Scope} {pos : Pos} {N : List Str} {ix : List (Option Nat)} {wi : TI} {g : TG} {tt : TT} {te : TE}
    (hc : X.calm = true) (hi : PI X tg iter wi) (hk : scope.kind = .function) (hcell0 : noCell scope = true) (hfree0 : freeOk scope X.env = true) (hnames0 : namesOk scope = true) (caps : Caps X scope N ix)
    (hg : ∀ cl C s H fp xe, PG (subCx X scope N cl C s H fp xe) tg g) (ht : ∀ cl C s H fp xe, PTs (subCx X scope N cl C s H fp xe) ifs tt) (he : ∀ cl C s H fp xe, PE (subCx X scope N cl C s H fp xe) elt te)
    (hs : ∀ x, foldedSetIterable iter X.env x = pure x := by intro _; rfl) :
    PE X (.ListComp elt [⟨tg, iter, ifs, 0⟩] scope pos) (tComp wi g tt te ix) := by
  intro pins s σ H Q I h
  rw [eval_ListComp]
  refine comp_core (use := none) hc hi hk hcell0 hfree0 hnames0 caps hg ht he hs I h fun C D H6 s6 B q => ?_
  obtain ⟨m, hn⟩ := B.ns
  exact ⟨m, hn, fun h' hsb => ⟨.ref D, H6, B.gone hsb, rfl, q⟩⟩
/-- over a range, every element a value that needs nothing new -/
theorem comp_range {lo : Int} {n : Nat} {g : TG} {tt : TT} {te : TE} {σ0 : St} {H : Hp} {D : Addr} {Q : VK} (f : Nat → V) (hz : n ≤ sizeLine)
    (hs : ∀ (i : Nat) (H' : Hp) (R : VK) (R0 : Hp → Prop), i < n → (∀ b, b ≠ D → H' b = H b) → R (f i) H' → g (.int (lo + i)) σ0 H' fun σ2 H2 => Ext σ0 σ2 ∧ tt σ2 H2 fun b H3 => if b = true then te σ2 H3 R else R0 H3)
    (hq : Q (.ref D) (upd H D (.lst ((List.range n).map f)))) :
    CompW (Itr lo n) g tt te σ0 D Q H := by
  refine ⟨fun i m ys H' => m = n - i ∧ i ≤ n ∧ ys = (List.range i).map f ∧ H' = upd H D (.lst ys), ⟨n, by simp, Nat.zero_le _, rfl, rfl⟩, ?_⟩
  rintro i m ys H' ⟨rfl, hi, rfl, rfl⟩
  by_cases hlt : i < n
  · refine .inr ⟨hlt, fun x H'' y => ?_⟩
    obtain ⟨e, y⟩ := y
    subst e y
    refine hs i _ _ _ hlt (fun b hb => upd_ne hb) ⟨upd_same, by simp; omega, n - (i + 1), by omega, rfl, hlt, ?_, ?_⟩
    · rw [List.range_succ, List.map_append]; rfl
    · rw [upd_upd]
  · have e : i = n := by omega
    subst e
    exact .inl ⟨Nat.le_refl _, hq⟩
/-- over a list that stays, every element a value that needs nothing new -/
theorem comp_list {K : PySem.W.Frag} {a : Addr} {xs : List V} {g : TG} {tt : TT} {te : TE} {σ0 : St} {H : Hp} {D : Addr} {Q : VK} (f : V → V) (hz : xs.length ≤ sizeLine) (hx : SqL K H a xs) (hD : H D = none)
    (hs : ∀ (i : Nat) (x : V) (H' : Hp) (R : VK) (R0 : Hp → Prop), xs[i]? = some x → (∀ b, b ≠ D → H' b = H b) → R (f x) H' → g x σ0 H' fun σ2 H2 => Ext σ0 σ2 ∧ tt σ2 H2 fun b H3 => if b = true then te σ2 H3 R else R0 H3)
    (hq : Q (.ref D) (upd H D (.lst (xs.map f)))) :
    CompW (Itl K a) g tt te σ0 D Q H := by
  have stays : ∀ ys : List V, SqL K (upd H D (.lst ys)) a xs := fun ys => by
    have sm : Same H (upd H D (.lst ys)) := fun b u q => by rw [upd_ne (ne_of_none q hD)]; exact q
    exact sm.seq hx
  refine ⟨fun i m ys H' => m = xs.length - i ∧ i ≤ xs.length ∧ ys = (xs.take i).map f ∧ H' = upd H D (.lst ys), ⟨xs.length, by simp, Nat.zero_le _, by simp, rfl⟩, ?_⟩
  rintro i m ys H' ⟨rfl, hi, rfl, rfl⟩
  by_cases hlt : i < xs.length
  · refine .inr ⟨⟨xs, xs[i], stays _, by simp [hlt]⟩, fun x H'' y => ?_⟩
    obtain ⟨e, y⟩ := y
    subst e
    have ex := y xs (stays _)
    refine hs i x _ _ _ ex (fun b hb => upd_ne hb) ⟨upd_same, by simp; omega, xs.length - (i + 1), by omega, rfl, hlt, ?_, ?_⟩
    · rw [List.take_add_one, ex, List.map_append]; rfl
    · rw [upd_upd]
  · have e : i = xs.length := by omega
    subst e
    refine .inl ⟨⟨xs, stays _, Nat.le_refl _⟩, ?_⟩
    rw [List.take_length]
    exact hq
end
end L2

set_option Elab.async false
set_option linter.all false
set_option maxRecDepth 100000
set_option maxHeartbeats 4000000
/-! Own rules over the layer: exceptions of own classes, raised, passed on, caught. -/
namespace L2
open PySem PySem.Spec PyProof.Rows
section
variable {P : Program} {w : World} {H : Hp} {h h' : Heap} {a : Addr} {o : HO}
theorem ObjOk.there (x : ObjOk P w H h a o) : ∃ u, h.get? a = some u := by
  cases o with
  | lst xs => obtain ⟨_, _, _, _, e⟩ := x; exact ⟨_, e⟩
  | tup xs => obtain ⟨_, _, _, _, e, _⟩ := x; exact ⟨_, e⟩
  | dK kvs => obtain ⟨_, _, _, _, _, _, _, e, _⟩ := x; exact ⟨_, e⟩
  | dT kvs => obtain ⟨_, _, _, _, _, _, _, e, _⟩ := x; exact ⟨_, e⟩
  | set S n => obtain ⟨_, _, _, _, e, _⟩ := x; exact ⟨_, e⟩
  | ins C dx fs => obtain ⟨_, _, _, e, _⟩ := x; exact ⟨_, e⟩
  | own y => obtain ⟨_, e⟩ := x; exact ⟨_, e⟩
  | xd fs => obtain ⟨_, ⟨_, _, _, e, _⟩, _⟩ := x; exact ⟨_, e⟩
  | rng lo hi => obtain ⟨_, _, _, e⟩ := x; exact ⟨_, e⟩
  | frz ob u => obtain ⟨e, _⟩ := x; exact ⟨_, e⟩
  | tbl ps => exact ⟨_, show h.get? a = some _ from x⟩
  | met f y => exact ⟨_, show h.get? a = some _ from x⟩
  | ext φ => obtain ⟨_, e, _⟩ := x; exact e
theorem HOk.none (x : HOk P w H h) (e : h.get? a = Option.none) : H a = Option.none := by
  cases q : H a with
  | none => rfl
  | some u =>
    obtain ⟨v, z⟩ := (x a u q).there
    rw [e] at z; cases z
theorem HOk.part (x : HOk P w H h) (k : ∀ b o, H b ≠ Option.none → h.get? b = some o → h'.get? b = some o) : HOk P w H h' := fun b u e => by
  refine (x b u e).stay (fun c v hc q => k c v ?_ q) (fun _ q => q) fun _ _ q => q
  intro z
  rcases hc with rfl | hc
  · rw [z] at e; cases e
  · rw [z] at hc; cases hc
end

/-- an exception of class cls at e, its trace at T -/
noncomputable def Tr (h : Heap) (e T : Addr) (cls : Value) : Prop := ∃ oe vs oT ts a0, h.get? e = some oe ∧ oe.cls = cls ∧ vs[0]? = some a0 ∧ oe.data = .fields vs ∧ vs[1]? = some (.ref T) ∧ T ≠ e ∧ h.get? T = some oT ∧ oT.data = .fields ts ∧ ts[3]? = some Value.none
theorem rebase {h base base' : Heap} : ∀ {l : List Env}, h.FunFrames base l → (∀ b ∈ frs l, base'.get? b = none) → h.FunFrames base' l
  | [], _, _ => trivial
  | env :: r, ⟨hk, ⟨L, o, hf, _, ho, hd⟩, hr⟩, hb => by
    have hL : L ∈ frs (env :: r) := by unfold frs; rw [List.filterMap_cons, hf]; exact List.mem_cons_self
    refine ⟨hk, ⟨L, o, hf, hb L hL, ho, hd⟩, rebase hr fun b z => hb b ?_⟩
    unfold frs at z ⊢
    rw [List.filterMap_cons, hf]
    exact List.mem_cons_of_mem _ z
/-- what an exception that goes by leaves as it was -/
structure Kept (l : List Env) (ch : List Addr) (h h' : Heap) : Prop where
  keep : ∀ b o, b ∉ frs l → b ∉ ch → h.get? b = some o → h'.get? b = some o
  slot : ∀ b o, b ∈ frs l → h.get? b = some o → ∃ sl, h'.get? b = some { o with slots := sl }
section
variable {M : Model} {A : Around} {E : Value → Shared → Prop} {s : Shared} {Q : Unit → Shared → Prop} {base : Heap} {env : Env} {outer l : List Env} {L e T : Addr} {cls : Value}
theorem notf (hl : s.heap.FunFrames base l) {b : Addr} {o : Obj} (hb : b ∈ frs l) (q : s.heap.get? b = some o) : ∀ vs, o.data ≠ .fields vs := by
  obtain ⟨_, o', ho, hd⟩ := hl.mem hb
  rw [q] at ho; cases ho; exact hd
/-- the trace behind: where it may lie -/
theorem trace_new {h h' : Heap} {ch : List Addr} (hl : h.FunFrames base l) {T' : Addr} {oT : Obj} {ts : Array Value} (hn : (PySem.W.hideAll h (frs l ++ ch)).get? T' = none) (hT : h'.get? T' = some oT) (hd : oT.data = .fields ts)
    (up : ∀ b o, h.get? b = some o → (∀ vs, o.data ≠ .fields vs) → ∃ sl, h'.get? b = some { o with slots := sl }) : T' ∈ ch ∨ h.get? T' = none := by
  cases q : h.get? T' with
  | none => exact .inr rfl
  | some o =>
    refine .inl ?_
    by_cases hm : T' ∈ frs l ++ ch
    · rcases List.mem_append.mp hm with z | z
      · obtain ⟨_, o', ho, hdo⟩ := hl.mem z
        obtain ⟨sl, e⟩ := up _ _ ho hdo
        rw [hT] at e; cases e
        exact absurd hd (hdo ts)
      · exact z
    · rw [PySem.W.hideAll_get _ q hm] at hn; cases hn
theorem leave_tr (hfr : A.frames = some (env :: outer)) (hl : s.heap.FunFrames base (env :: outer)) (hf : env.frame = some L) (tr : Tr s.heap e T cls)
    (hQ : ∀ h' T', Tr h' e T' cls → (T' = T ∨ s.heap.get? T' = none) → Kept (env :: outer) [e, T] s.heap h' → Q () { s with heap := h' }) : wpAny M A (leaving env (.ref e)) Q E s := by
  obtain ⟨oe, vs, oT, ts, a0, he, hc, h0, hd, h1, hTe, hT, hdT, h3⟩ := tr
  have hid : ∀ b, b ∈ frs (env :: outer) ++ [e, T] → (PySem.W.hideAll s.heap (frs (env :: outer) ++ [e, T])).get? b = none := fun b hb => PySem.W.hideAll_none _ hb
  refine wpAny_leaving_nextW (base := PySem.W.hideAll s.heap (frs (env :: outer) ++ [e, T])) (a0 := a0) (cls := cls) hfr (rebase hl fun b hb => hid b (List.mem_append_left _ hb)) hf
    ⟨oe, vs, T, oT, ts, he, ⟨hc, h0⟩, hd, h1, hid T (by simp), hTe, hT, hdT, h3⟩ (fun b o q => PySem.W.of_hideAll _ q) (hid e (by simp)) fun h' hL => ?_
  obtain ⟨k1, k2, ⟨oe', vs', T', oT', ts', he', ⟨hc', h0'⟩, hd', h1', hn', hTe', hT', hdT', h3'⟩, k4⟩ := hL
  refine hQ h' T' ⟨oe', vs', oT', ts', a0, he', hc', h0', hd', h1', hTe', hT', hdT', h3'⟩ ?_ ⟨fun b o hb hch q => k1 b o (PySem.W.hideAll_get _ q fun z => ?_), fun b o hb q => k4 b o q (notf hl hb q)⟩
  · rcases trace_new hl hn' hT' hdT' k4 with z | z
    · rcases List.mem_cons.mp z with z | z
      · exact absurd z hTe'
      · exact .inl (by simpa using z)
    · exact .inr z
  · rcases List.mem_append.mp z with z | z
    · exact hb z
    · exact hch z
theorem leave_new1 {oe : Obj} {vs : Array Value} {a0 : Value} (hfr : A.frames = some (env :: outer)) (hl : s.heap.FunFrames base (env :: outer)) (hf : env.frame = some L) (he : s.heap.get? e = some oe) (hc : oe.cls = cls) (hd : oe.data = .fields vs) (h0 : vs[0]? = some a0) (h1 : vs[1]? = some .none)
    (hQ : ∀ h' T', Tr h' e T' cls → s.heap.get? T' = none → Kept (env :: outer) [e] s.heap h' → Q () { s with heap := h' }) : wpAny M A (leaving env (.ref e)) Q E s := by
  have hid : ∀ b, b ∈ frs (env :: outer) ++ [e] → (PySem.W.hideAll s.heap (frs (env :: outer) ++ [e])).get? b = none := fun b hb => PySem.W.hideAll_none _ hb
  refine wpAny_leaving_firstW (base := PySem.W.hideAll s.heap (frs (env :: outer) ++ [e])) (a0 := a0) hfr (rebase hl fun b hb => hid b (List.mem_append_left _ hb)) hf he (fun b o q => PySem.W.of_hideAll _ q) (hid e (by simp)) hd h1 h0 fun h' hL => ?_
  obtain ⟨k1, k2, ⟨oe', vs', T', oT', ts', he', ⟨hc', h0'⟩, hd', h1', hn', hTe', hT', hdT', h3'⟩, k4⟩ := hL
  refine hQ h' T' ⟨oe', vs', oT', ts', a0, he', hc'.trans hc, h0', hd', h1', hTe', hT', hdT', h3'⟩ ?_ ⟨fun b o hb hch q => k1 b o (PySem.W.hideAll_get _ q fun z => ?_), fun b o hb q => k4 b o q (notf hl hb q)⟩
  · rcases trace_new hl hn' hT' hdT' k4 with z | z
    · exact absurd (by simpa using z) hTe'
    · exact z
  · rcases List.mem_append.mp z with z | z
    · exact hb z
    · exact hch z
/-- a try looks at it: noted, then laid down -/
theorem look_tr (hfr : A.frames = some (env :: outer)) (hl : s.heap.FunFrames base (env :: outer)) (hf : env.frame = some L) (tr : Tr s.heap e T cls)
    (hQ : ∀ h' T', Tr h' e T' cls → (T' = T ∨ s.heap.get? T' = none) → Kept (env :: outer) [e, T] s.heap h' → Q () { s with heap := h' }) :
    wpAny M A (noteFrame (.ref e) env) (fun _ s2 => wpAny M A (setFlight (.ref e) none) Q E s2) E s := by
  obtain ⟨oe, vs, oT, ts, a0, he, hc, h0, hd, h1, hTe, hT, hdT, h3⟩ := tr
  have hid : ∀ b, b ∈ frs (env :: outer) ++ [e, T] → (PySem.W.hideAll s.heap (frs (env :: outer) ++ [e, T])).get? b = none := fun b hb => PySem.W.hideAll_none _ hb
  refine wpAny_looks_onW (base := PySem.W.hideAll s.heap (frs (env :: outer) ++ [e, T])) (a0 := a0) (cls := cls) hfr hf
    ⟨fun b o q => PySem.W.of_hideAll _ q, hid e (by simp), rebase hl fun b hb => hid b (List.mem_append_left _ hb), oe, vs, T, oT, ts, he, ⟨hc, h0⟩, hd, h1, hid T (by simp), hTe, hT, hdT, h3⟩ fun h1' held up1 => ?_
  refine wpAny_landsW held fun h' fl up2 => ?_
  have up := Heap.UpToSlots.trans up1 up2
  obtain ⟨k1, _, k2, oe', vs', T', oT', ts', he', ⟨hc', h0'⟩, hd', h1', hn', hTe', hT', hdT', h3'⟩ := fl
  refine hQ h' T' ⟨oe', vs', oT', ts', a0, he', hc', h0', hd', h1', hTe', hT', hdT', h3'⟩ ?_ ⟨fun b o hb hch q => k1 b o (PySem.W.hideAll_get _ q fun z => ?_), fun b o hb q => up b o q (notf hl hb q)⟩
  · rcases trace_new hl hn' hT' hdT' up with z | z
    · rcases List.mem_cons.mp z with z | z
      · exact absurd z hTe'
      · exact .inl (by simpa using z)
    · exact .inr z
  · rcases List.mem_append.mp z with z | z
    · exact hb z
    · exact hch z
/-- laid down once more -/
theorem again_tr (hl : s.heap.FunFrames base l) (tr : Tr s.heap e T cls)
    (hQ : ∀ h' T', Tr h' e T' cls → (T' = T ∨ s.heap.get? T' = none) → Kept l [e, T] s.heap h' → Q () { s with heap := h' }) : wpAny M A (setFlight (.ref e) none) Q E s := by
  obtain ⟨oe, vs, oT, ts, a0, he, hc, h0, hd, h1, hTe, hT, hdT, h3⟩ := tr
  have hid : ∀ b, b ∈ frs l ++ [e, T] → (PySem.W.hideAll s.heap (frs l ++ [e, T])).get? b = none := fun b hb => PySem.W.hideAll_none _ hb
  refine lands_againW (base := PySem.W.hideAll s.heap (frs l ++ [e, T])) (l := l) (a0 := a0) (cls := cls)
    ⟨fun b o q => PySem.W.of_hideAll _ q, hid e (by simp), rebase hl fun b hb => hid b (List.mem_append_left _ hb), oe, vs, T, oT, ts, he, ⟨hc, h0⟩, hd, h1, hid T (by simp), hTe, hT, hdT, h3⟩ fun h' fl up => ?_
  obtain ⟨k1, _, k2, oe', vs', T', oT', ts', he', ⟨hc', h0'⟩, hd', h1', hn', hTe', hT', hdT', h3'⟩ := fl
  refine hQ h' T' ⟨oe', vs', oT', ts', a0, he', hc', h0', hd', h1', hTe', hT', hdT', h3'⟩ ?_ ⟨fun b o hb hch q => k1 b o (PySem.W.hideAll_get _ q fun z => ?_), fun b o hb q => up b o q (notf hl hb q)⟩
  · rcases trace_new hl hn' hT' hdT' up with z | z
    · rcases List.mem_cons.mp z with z | z
      · exact absurd z hTe'
      · exact .inl (by simpa using z)
    · exact .inr z
  · rcases List.mem_append.mp z with z | z
    · exact hb z
    · exact hch z
end

/-! ### the state while an exception goes by -/
section
variable {X : Cx} {pins : List (Addr × Obj)} {σ : St} {H : Hp} {s : Shared} {h' : Heap} {ch : List Addr}
/-- what may change is ours: not of the entry, no pin, no cell, not tracked -/
structure Ours (X : Cx) (pins : List (Addr × Obj)) (H : Hp) (b : Addr) : Prop where
  new : X.s₀.heap.get? b = none
  free : H b = none
  loc : b ≠ X.env.locals
  cell : ∀ x c, X.env.cells.lookup x = some c → c ≠ b
  pin : ∀ p ∈ X.pn ++ pins, p.1 ≠ b
theorem Inv.ours (I : Inv X pins σ H s) (hx : X.ex = []) {b : Addr} (n : s.heap.get? b = none) : X.s₀.heap.get? b = none ∧ b ≠ X.env.locals ∧ (∀ x c, X.env.cells.lookup x = some c → c ≠ b) ∧ ∀ p ∈ X.pn ++ pins, p.1 ≠ b := by
  refine ⟨?_, ?_, fun x c e z => ?_, fun p hp z => ?_⟩
  · cases q : X.s₀.heap.get? b with
    | none => rfl
    | some o =>
      obtain ⟨o', e⟩ := I.base.there b o q (by rw [hx]; simp)
      rw [n] at e; cases e
  · rintro rfl
    obtain ⟨m, ⟨o, _, _, e, _⟩, _⟩ := I.loc
    rw [n] at e; cases e
  · subst z
    obtain ⟨v, o, e', _⟩ := I.cell x c e
    rw [n] at e'; cases e'
  · have := (I.pin p hp).1
    rw [z, n] at this; cases this
theorem Inv.exc (I : Inv X pins σ H s) (hx : X.ex = []) (ours : ∀ b ∈ ch, Ours X pins H b) (k : Kept X.stack ch s.heap h') : Inv X pins σ H { s with heap := h' } := by
  have sub := I.stkSub
  have above := I.ok.above
  have outs : ∀ b ∈ X.fs, b ∈ frs X.stack := fun b hb => by
    rcases I.ok.stk with e | ⟨e, hf⟩
    · rw [e]; exact hb
    · rw [e]
      show b ∈ frs (X.env :: X.outer)
      unfold frs
      rw [List.filterMap_cons, hf]
      exact List.mem_cons_of_mem _ hb
  have anyk : ∀ b o, b ∉ ch → s.heap.get? b = some o → ∃ sl, h'.get? b = some { o with slots := sl } := fun b o hc q => by
    by_cases hb : b ∈ frs X.stack
    · exact k.slot b o hb q
    · exact ⟨o.slots, k.keep b o hb hc q⟩
  have nch : ∀ b o, X.s₀.heap.get? b = some o → b ∉ ch := fun b o q z => by rw [(ours b z).new] at q; cases q
  have lch : X.env.locals ∉ ch := fun z => (ours _ z).loc rfl
  have cch : ∀ x c, X.env.cells.lookup x = some c → c ∉ ch := fun x c e z => (ours _ z).cell x c e rfl
  have cellK : ∀ x c v, X.env.cells.lookup x = some c → s.heap.IsCell c v → h'.IsCell c v := fun x c v e z => by
    obtain ⟨o, ho, hd⟩ := z
    obtain ⟨sl, q⟩ := anyk c o (cch x c e) ho
    exact ⟨_, q, hd⟩
  refine ⟨I.ok, I.os, I.bare, ⟨fun b o e n hb hxx => ?_, fun b o e n hb hxx => ?_, I.base.free, fun b o e hxx => ?_, I.base.tups, I.base.frzs, I.base.tbls⟩, ?_, fun x c e => ?_, I.free, I.freeC, fun p hp => ?_, ?_, I.len⟩
  · refine k.keep b o (fun z => ?_) (nch b o e) (I.base.keep b o e n hb hxx)
    rcases List.mem_cons.mp (sub b z) with z | z
    · exact absurd (Nat.lt_of_lt_of_le (Heap.lt_size e) above) (by rw [z]; exact Nat.lt_irrefl _)
    · exact hb z
  · obtain ⟨sl, e1⟩ := I.base.slot b o e n hb hxx
    obtain ⟨sl', e2⟩ := k.slot b _ (outs b hb) e1
    exact ⟨sl', e2⟩
  · obtain ⟨o', e1⟩ := I.base.there b o e hxx
    obtain ⟨sl, e2⟩ := anyk b o' (nch b o e) e1
    exact ⟨_, e2⟩
  · obtain ⟨m, ⟨o, es, ep, ho, r⟩, hl⟩ := I.loc
    obtain ⟨sl, q⟩ := anyk _ o lch ho
    refine ⟨m, ⟨_, es, ep, q, r⟩, fun i x v e1 e2 e3 => ?_⟩
    obtain ⟨u, ru, lk⟩ := hl i x v e1 e2 e3
    refine ⟨u, ru, ?_⟩
    rcases lk with z | ⟨z, c, e, ic⟩
    · exact .inl z
    · exact .inr ⟨z, c, e, cellK x c _ e ic⟩
  · obtain ⟨v, z⟩ := I.cell x c e
    exact ⟨v, cellK x c v e z⟩
  · obtain ⟨e, n, ne, nf, d⟩ := I.pin p hp
    refine ⟨k.keep p.1 p.2 (fun z => ?_) (fun z => (ours _ z).pin p hp rfl) e, n, ne, nf, d⟩
    rcases List.mem_cons.mp (sub _ z) with z | z
    · exact ne z
    · exact nf z
  · refine I.hok.part fun b o hb q => k.keep b o (fun z => hb (I.stkFree b z)) (fun z => hb (ours b z).free) q
/-- an object that is ours is tracked from now on -/
theorem Inv.track {e : Addr} {φ : Heap → Prop} (I : Inv X pins σ H s) (o : Ours X pins H e) (new : ObjOk X.prog X.w (upd H e (.ext φ)) s.heap e (.ext φ)) : Inv X pins σ (upd H e (.ext φ)) s := by
  have ne : ∀ b u, H b = some u → b ≠ e := fun b u q z => by rw [z, o.free] at q; cases q
  refine ⟨I.ok, I.os, I.bare, ⟨I.base.keep, I.base.slot, fun b ob q n hx => ?_, I.base.there, fun b xs q => ?_, fun b ob u q => ?_, fun b ps q => ?_⟩, I.loc, I.cell, ?_, fun x c q => ?_, fun p hp => ?_, fun b u q => ?_, I.len⟩
  · rw [upd_ne (fun z => by rw [z, o.new] at q; cases q)]; exact I.base.free b ob q n hx
  · have := I.base.tups b xs q
    rw [upd_ne (ne _ _ this)]; exact this
  · have := I.base.frzs b ob u q
    rw [upd_ne (ne _ _ this)]; exact this
  · obtain ⟨m, z⟩ := I.base.tbls b ps q
    exact ⟨m, by rw [upd_ne (ne _ _ z)]; exact z⟩
  · rw [upd_ne (Ne.symm o.loc)]; exact I.free
  · rw [upd_ne (o.cell x c q)]; exact I.freeC x c q
  · obtain ⟨z, n, r⟩ := I.pin p hp
    exact ⟨z, by rw [upd_ne (o.pin p hp)]; exact n, r⟩
  · by_cases z : b = e
    · subst z; rw [upd_same] at q; cases q; exact new
    · rw [upd_ne z] at q
      exact (I.hok b u q).stay (fun _ _ _ x => x) (fun c x => by rw [upd_ne (ne _ _ x)]; exact x) fun c xs x => by rw [upd_ne (ne _ _ x)]; exact x
end

/-! ### how an exception lies behind a call -/
noncomputable def CX1 (P : Program) (w : World) : CXT := fun outer H s E e s' => ∃ (ea T : Addr) (cls : Value) (H' : Hp), e = .ref ea ∧ s.heap.get? ea = none ∧ s.heap.get? T = none ∧ H' ea = none ∧ H' T = none ∧ Tr s'.heap ea T cls ∧
  s'.os = s.os ∧ AllBare s'.gens ∧ Un (frs outer) [] H H' s.heap s'.heap ∧ HOk P w H' s'.heap ∧ E cls none H'
theorem passN {P : Program} {w : World} {X : Cx} : Passes (CX1 P w) X E0 := fun _ _ _ _ _ _ _ ⟨_, _, _, _, _, _, _, _, _, _, _, _, _, _, q⟩ => q.elim
/-- a context in which an exception that E lets by may rise -/
structure Thr (X : Cx) (E : XK) : Prop where
  made : ∀ {pins : List (Addr × Obj)} {σ : St} {H : Hp} {s : Shared} {e : Addr} {cls : Value} {vs : List Value} {h' : Heap}, Inv X pins σ H s → Heap.MadeExcOf s.heap h' e cls vs → E cls none H → X.xe (.ref e) { s with heap := h' }
  pass : Passes (CX1 X.prog X.w) X E
section
variable {P : Program} {w : World} {K : PySem.W.Frag} {mg : Str → Option Value} {base : Heap} {N : List Str} {qual : Str} {scope : Scope} {f : Addr} {cd : Value} {A : Around} {outer : List Env} {s : Shared} {H : Hp} {E : XK}
/-- a def's body: an exception leaves its frame -/
theorem lies_def {pins : List (Addr × Obj)} {σ : St} {H2 : Hp} {s2 : Shared} {ea T : Addr} {cls : Value} (I : Inv (cxOf (CX1 P w) P w K mg base N qual scope f cd A outer s H E) pins σ H2 s2) (tr : Tr s2.heap ea T cls)
    (n1 : s.heap.get? ea = none) (n2 : s.heap.get? T = none) (f1 : H2 ea = none) (f2 : H2 T = none) (q : E cls none H2) : (cxOf (CX1 P w) P w K mg base N qual scope f cd A outer s H E).xe (.ref ea) s2 := by
  have fr : (A.deeper (envOfC qual scope s.heap.objs.size f cd)).frames = some (envOfC qual scope s.heap.objs.size f cd :: outer) := I.ok.frames
  have above : s.heap.objs.size ≤ (envOfC qual scope s.heap.objs.size f cd).locals := I.ok.above
  have nex : ∀ b : Addr, b ∉ (cxOf (CX1 P w) P w K mg base N qual scope f cd A outer s H E).ex := fun b z => absurd (show b ∈ ([] : List Addr) from z) (by simp)
  have sub : ∀ b ∈ frs (envOfC qual scope s.heap.objs.size f cd :: outer), b = (envOfC qual scope s.heap.objs.size f cd).locals ∨ b ∈ frs outer := fun b hb => List.mem_cons.mp (I.stkSub b hb)
  have out : ∀ b ∈ frs outer, b ∈ frs (envOfC qual scope s.heap.objs.size f cd :: outer) := fun b hb => by
    unfold frs at hb ⊢
    rw [List.filterMap_cons]
    split
    · exact hb
    · exact List.mem_cons_of_mem _ hb
  refine leave_tr fr I.stack rfl tr fun h' T' tr' hT' k => ?_
  have anyk : ∀ b o, b ≠ ea → b ≠ T → s2.heap.get? b = some o → ∃ sl, h'.get? b = some { o with slots := sl } := fun b o h1 h2 z => by
    by_cases hb : b ∈ frs (envOfC qual scope s.heap.objs.size f cd :: outer)
    · exact k.slot b o hb z
    · exact ⟨o.slots, k.keep b o hb (by simp [h1, h2]) z⟩
  have ne : ∀ b o, s.heap.get? b = some o → b ≠ ea ∧ b ≠ T := fun b o z => ⟨fun y => (by rw [y, n1] at z; cases z), fun y => (by rw [y, n2] at z; cases z)⟩
  refine ⟨ea, T', cls, H2, rfl, n1, ?_, f1, ?_, tr', I.os, I.bare, ⟨fun b o z n hb hx => ?_, fun b o z n hb hx => ?_, fun b o z n hx => I.base.free b o z n (nex b), fun b o z hx => ?_, I.base.tups, I.base.frzs, I.base.tbls⟩, ?_, q⟩
  · rcases hT' with z | z
    · rw [z]; exact n2
    · cases y : s.heap.get? T' with
      | none => rfl
      | some o =>
        obtain ⟨o', e'⟩ := I.base.there T' o y (nex _)
        rw [z] at e'; cases e'
  · rcases hT' with z | z
    · rw [z]; exact f2
    · exact I.hok.none z
  · refine k.keep b o (fun y => ?_) (by have := ne b o z; simp [this.1, this.2]) (I.base.keep b o z n hb (nex b))
    rcases sub b y with y | y
    · exact absurd (Nat.lt_of_lt_of_le (Heap.lt_size z) above) (by rw [y]; exact Nat.lt_irrefl _)
    · exact hb y
  · obtain ⟨sl, e1⟩ := I.base.slot b o z n hb (nex b)
    obtain ⟨sl', e2⟩ := k.slot b _ (out b hb) e1
    exact ⟨sl', e2⟩
  · obtain ⟨o', e1⟩ := I.base.there b o z (nex b)
    obtain ⟨sl, e2⟩ := anyk b o' (ne b o z).1 (ne b o z).2 e1
    exact ⟨_, e2⟩
  · refine I.hok.part fun b o hb z => k.keep b o (fun y => hb (I.stkFree b y)) (fun y => ?_) z
    rcases List.mem_cons.mp y with y | y
    · exact hb (by rw [y]; exact f1)
    · exact hb (by rw [show b = T by simpa using y]; exact f2)
theorem thr_def : Thr (cxOf (CX1 P w) P w K mg base N qual scope f cd A outer s H E) E where
  made := fun {pins σ H1 s1 e cls vs h'} I m q => by
    obtain ⟨t, he, htn, ht⟩ := m.there
    have I2 : Inv (cxOf (CX1 P w) P w K mg base N qual scope f cd A outer s H E) pins σ H1 { s1 with heap := h' } := I.kept (t' := s1.toks) m.keeps
    have fr : (A.deeper (envOfC qual scope s.heap.objs.size f cd)).frames = some (envOfC qual scope s.heap.objs.size f cd :: outer) := I.ok.frames
    have above : s.heap.objs.size ≤ (envOfC qual scope s.heap.objs.size f cd).locals := I.ok.above
    have nex : ∀ b : Addr, b ∉ (cxOf (CX1 P w) P w K mg base N qual scope f cd A outer s H E).ex := fun b z => absurd (show b ∈ ([] : List Addr) from z) (by simp)
    have sub : ∀ b ∈ frs (envOfC qual scope s.heap.objs.size f cd :: outer), b = (envOfC qual scope s.heap.objs.size f cd).locals ∨ b ∈ frs outer := fun b hb => List.mem_cons.mp (I.stkSub b hb)
    have out : ∀ b ∈ frs outer, b ∈ frs (envOfC qual scope s.heap.objs.size f cd :: outer) := fun b hb => by
      unfold frs at hb ⊢
      rw [List.filterMap_cons]
      split
      · exact hb
      · exact List.mem_cons_of_mem _ hb
    have n1 : s.heap.get? e = none := (I.ours rfl m.new).1
    refine leave_new1 (cls := cls) fr I2.stack rfl he rfl rfl rfl rfl fun h2 T' tr' hT' k => ?_
    have anyk : ∀ b o, b ≠ e → h'.get? b = some o → ∃ sl, h2.get? b = some { o with slots := sl } := fun b o h1 z => by
      by_cases hb : b ∈ frs (envOfC qual scope s.heap.objs.size f cd :: outer)
      · exact k.slot b o hb z
      · exact ⟨o.slots, k.keep b o hb (by simp [h1]) z⟩
    have ne : ∀ b o, s.heap.get? b = some o → b ≠ e := fun b o z y => by rw [y, n1] at z; cases z
    refine ⟨e, T', cls, H1, rfl, n1, (I2.ours rfl hT').1, I.hok.none m.new, I2.hok.none hT', tr', I.os, I.bare, ⟨fun b o z n hb hx => ?_, fun b o z n hb hx => ?_, fun b o z n hx => I.base.free b o z n (nex b), fun b o z hx => ?_, I.base.tups, I.base.frzs, I.base.tbls⟩, ?_, q⟩
    · refine k.keep b o (fun y => ?_) (by simp [ne b o z]) (I2.base.keep b o z n hb (nex b))
      rcases sub b y with y | y
      · exact absurd (Nat.lt_of_lt_of_le (Heap.lt_size z) above) (by rw [y]; exact Nat.lt_irrefl _)
      · exact hb y
    · obtain ⟨sl, e1⟩ := I2.base.slot b o z n hb (nex b)
      obtain ⟨sl', e2⟩ := k.slot b _ (out b hb) e1
      exact ⟨sl', e2⟩
    · obtain ⟨o', e1⟩ := I2.base.there b o z (nex b)
      obtain ⟨sl, e2⟩ := anyk b o' (ne b o z) e1
      exact ⟨_, e2⟩
    · refine I2.hok.part fun b o hb z => k.keep b o (fun y => hb (I.stkFree b y)) (fun y => ?_) z
      exact hb (by rw [show b = e by simpa using y]; exact I.hok.none m.new)
  pass := fun pins σ H1 s1 e s2 I hcx => by
    obtain ⟨ea, T, cls, H2, rfl, n1, n2, f1, f2, tr, os, bare, un, hok, q⟩ := hcx
    have I2 := I.call' os un hok bare fun b z => absurd z (by simp)
    exact lies_def I2 tr (I.ours rfl n1).1 (I.ours rfl n2).1 f1 f2 q
end
section
variable {P : Program} {w : World} {K : PySem.W.Frag} {mg : Str → Option Value} {base : Heap}
/-- a def that raises nothing, where exceptions may lie -/
theorem FnOk.up {CX : CXT} {k : Nat} {f : Addr} {fd : FuncData} {ps : List Str} {sp : Sp} (F : FnOk P w K mg base CX0 k f fd ps sp) : FnOk P w K mg base CX k f fd ps sp :=
  ⟨F.len, fun A outer s H args us vs Q E hr he hb hv hs => codeAny_mono (F.run A outer s H args us vs Q E hr he hb hv hs) fun r s' q => by
    cases r with
    | error e => exact False.elim q
    | ok fl => cases fl <;> exact q⟩
/-- a def that may raise -/
theorem Fun.okE {x qual : Str} {st : Stmt} {f : Addr} {fd : FuncData} {N ps : List Str} {k : Nat} {sp : Sp} (F : Fun K x qual st f fd) (S : FnScope N ps (defScope st)) (len : ∀ vs H Q E, sp vs H Q E → vs.length = ps.length)
    (hbody : ∀ (cdv : Value) (A : Around) (outer : List Env) (s : Shared) (H : Hp) (vs : List V) (Q : VK) (E : XK), Room k (A.deeper (envOfC qual (defScope st) s.heap.objs.size f cdv)) → sp vs H Q E →
      ∃ t, PSs (cxOf (CX1 P w) P w K mg base N qual (defScope st) f cdv A outer s H E) (defBody st) t ∧ t { nx := fun _ H' => Q .non H', rt := Q } (start N vs) H) : FnOk P w K mg base (CX1 P w) (k + 1) f fd ps sp := by
  obtain ⟨oc, od, kV, doc, pm, an, cdv, ct, osl, rfl, lk, hcd⟩ := F.ex
  exact fn_of lk hcd S len fun A outer s H vs Q E hr hsp => hbody cdv A outer s H vs Q E hr hsp
end

/-! ### raise C(..), C an own class under ValueError without an __init__ of its own -/
noncomputable abbrev veB : List Value := [.type "ValueError", .type "Exception", .type "BaseException", .type "object"]
noncomputable abbrev excI (K : PySem.W.Frag) (C : Addr) : Prop := PySem.W.excIn K C veB "ValueError.__new__" = true
theorem excObj {K : PySem.W.Frag} {h : Heap} {C : Addr} (X : K.In h) (q : excI K C) : ∃ bm N nm qn bs hd sn sub ab col dd k0 k1 k2 k3 k5 mN,
    h.get? C = some (excClassObj nm qn C N bs bm hd sn sub ab col dd k0 k1 k2 k3 k5 "ValueError.__new__") ∧ h.Ns N mN ∧ mN "__init__" = none ∧ OwnTail h veB bm := by
  unfold excI PySem.W.excIn at q
  split at q
  · rename_i dd cd sl ho
    split at q
    · rename_i C' bm k0 k1 k2 k3 n k5 hm hs
      obtain ⟨q5, q6⟩ := Bool.and_eq_true_iff.mp q
      obtain ⟨q4, hok⟩ := Bool.and_eq_true_iff.mp q5
      obtain ⟨q3, ht⟩ := Bool.and_eq_true_iff.mp q4
      obtain ⟨q2, hdel⟩ := Bool.and_eq_true_iff.mp q3
      obtain ⟨e1, e2⟩ := Bool.and_eq_true_iff.mp q2
      have e1 := beq_iff_eq.mp e1
      have e2 := beq_iff_eq.mp e2
      have hni := beq_iff_eq.mp q6
      subst e1 e2
      obtain ⟨nm, bs, mro, ns, qn, hd, sn, sub, ab, col, del⟩ := cd
      have hsl : sl = #[k0, k1, k2, k3, some (.builtin "ValueError.__new__"), k5] := by
        rw [← hs]
      have hdel' : del = false := by simpa using hdel
      have hm' : mro = .ref C' :: bm := hm
      subst hm' hdel' hsl
      exact ⟨bm, ns, nm, qn, bs, hd, sn, sub, ab, col, dd, k0, k1, k2, k3, k5, _, X _ _ ho, .of_isNs (PySem.W.isNs_of_in X hok), PySem.W.nsMap_none_of_in X hok hni, PySem.W.tail_of_in X ht⟩
    · cases q
  · cases q
noncomputable def tRaise (E : XK) (C : Addr) (t : TA) : TS := fun _ σ H => t σ H fun vs H1 => vs.length ≤ sizeLine ∧ E (.ref C) none H1
theorem ps_raise {X : Cx} {E : XK} {C : Addr} {x : Str} {np cpos pos : Pos} {a : Expr} {ta : TA} (T : Thr X E) (O : excI X.K C) (hg : Gl X x) (hm : X.mg x = some (.ref C)) (ha : PA X [a] ta) (hc : X.calm = true := by rfl)
    (hs : starEach [a] X.env = [(false, eval a X.env)] := by rfl) (hd : (x == ("__debug__" : Str)) = false := by decide) : PS X (.Raise (some (.Call (.Name x np) [a] [] cpos)) none pos) (tRaise E C ta) := by
  intro pins s σ H D I h
  obtain ⟨bm, N, nm, qn, bs, hd', sn, sub, ab, col, dd, k0, k1, k2, k3, k5, mN, hC, hN, hni, TL⟩ := excObj I.ok.mod.kin O
  refine wpAny_Raise_call_subT (C := C) (nm := nm) (q := qn) (N := N) (bs := bs) (bm := bm) (hdct := hd') (sn := sn) (sub := sub) (ab := ab) (col := col) (dd := dd) (k0 := k0) (k1 := k1) (k2 := k2) (k3 := k3) (k5 := k5)
    PySem.F.excBase_ValueError (mN := mN) (TL.hasType PySem.F.excBase_ValueError.hasBase) (I.ok.hd hc) (by rw [hs]; rfl) hni (ld_glob I hg hm ⟨rfl, ?_⟩ hd)
  have p := ha cpos pins s σ H _ I h
  rw [hs] at p ⊢
  exact Calls.evalArgs_plain (thn p fun us s1 ⟨vs, H1, I1, r, q⟩ => ⟨rfl, by rw [← r.length]; exact q.1, I1.bk _ _ hC, hN.keeps I1.bk, TL.keeps I1.bk, fun h' e m => T.made I1 m q.2⟩)

/-! ### try: f(..), except C as n: .. -/
/-- within an except suite -/
noncomputable def Cx.inExc (X : Cx) (e : Addr) : Cx := { X with A := X.A.mark (some (.ref e)), calm := false, xe := fun _ _ => False }
section
variable {X : Cx} {pins : List (Addr × Obj)} {σ : St} {H : Hp} {s : Shared} {e : Addr}
theorem Inv.inExc (I : Inv X pins σ H s) (e : Addr) : Inv (X.inExc e) pins σ H s :=
  ⟨⟨I.ok.mod, I.ok.kind, I.ok.glob, I.ok.blt, I.ok.above, I.ok.inj, I.ok.has, I.ok.cab, fun z => (by cases z), I.ok.frames, I.ok.stk, I.ok.exf, I.ok.bs, I.ok.bsz, I.ok.noex, I.ok.exfs, I.ok.funs, I.ok.frf⟩, I.os, I.bare, I.base, I.loc, I.cell, I.free, I.freeC, I.pin, I.hok, I.len⟩
theorem Inv.outExc (ok : X.Ok) (I : Inv (X.inExc e) pins σ H s) : Inv X pins σ H s := ⟨ok, I.os, I.bare, I.base, I.loc, I.cell, I.free, I.freeC, I.pin, I.hok, I.len⟩
/-- a name is taken away -/
theorem Inv.unbind {i : Nat} {n : Str} {m : Str → Option Value} {v : Option Value} {h' : Heap} {t' : Nat} (I : Inv X pins σ H s) (hN : X.N.Nodup) (hi : X.N[i]? = some n)
    (hl : ∀ (i : Nat) (x : Str) (v : V), X.N[i]? = some x → σ[i]? = some (some v) → Vis X.env.scope x → ∃ u, RelV v u ∧ Look X.env s.heap m x u)
    (hn' : h'.Ns X.env.locals (fun x => if x = n then v else m x)) (hs : Heap.SameBut X.env.locals s.heap h') : Inv X pins (σ.set i none) H { s with heap := h', toks := t' } := by
  have lo : ∀ b o, X.s₀.heap.get? b = some o → b ≠ X.env.locals := fun b o e z => by
    exact absurd (Nat.lt_of_lt_of_le (Heap.lt_size e) I.ok.above) (by rw [z]; exact Nat.lt_irrefl _)
  have cne := I.cne
  refine ⟨I.ok, I.os, I.bare, ⟨fun b o e n hb hx => (hs.2 b (lo b o e)).trans (I.base.keep b o e n hb hx), fun b o e n hb hx => ?_, I.base.free, fun b o e hx => ?_, I.base.tups, I.base.frzs, I.base.tbls⟩,
    ⟨_, hn', fun j y v' e1 e2 e3 => ?_⟩, fun y c e => ?_, I.free, I.freeC, fun p hp => ?_, I.hok.part fun b o hb q => (hs.2 b fun z => hb (by rw [z]; exact I.free)).trans q, by simpa using I.len⟩
  · obtain ⟨sl, e1⟩ := I.base.slot b o e n hb hx
    exact ⟨sl, (hs.2 b (lo b o e)).trans e1⟩
  · obtain ⟨o', e1⟩ := I.base.there b o e hx
    exact ⟨o', (hs.2 b (lo b o e)).trans e1⟩
  · by_cases hj : j = i
    · subst hj
      by_cases hlt : j < σ.length
      · rw [List.getElem?_set_self hlt] at e2; cases e2
      · rw [List.getElem?_eq_none (by simpa using hlt)] at e2; cases e2
    · rw [List.getElem?_set_ne (Ne.symm hj)] at e2
      obtain ⟨u, r, q⟩ := hl j y v' e1 e2 e3
      have yn : y ≠ n := fun e => hj (nodup_ix hN e1 (e ▸ hi))
      refine ⟨u, r, ?_⟩
      rcases q with ⟨k, e⟩ | ⟨k, c, e, z⟩
      · exact .inl ⟨k, by simp [yn, e]⟩
      · exact .inr ⟨k, c, e, z.sameBut hs (cne y c e)⟩
  · obtain ⟨w', z⟩ := I.cell y c e
    exact ⟨w', z.sameBut hs (cne y c e)⟩
  · obtain ⟨e, n, ne, nf, d⟩ := I.pin p hp
    exact ⟨(hs.2 p.1 ne).trans e, n, ne, nf, d⟩
end
/-- an expression that is tried: what is wanted of its exceptions is free -/
noncomputable def PEx (X : Cx) (e : Expr) (t : XK → TE) : Prop := ∀ (E : XK) (σ : St) (pn' : List (Addr × Obj)) (xe' : Value → Shared → Prop),
  (∀ (pins : List (Addr × Obj)) (H : Hp) (s : Shared) (v : Value) (s' : Shared), Inv { X with pn := pn', xe := xe' } pins σ H s → CX1 X.prog X.w X.stack H s E v s' → xe' v s') →
  ∀ (pins : List (Addr × Obj)) (s : Shared) (H : Hp) (Q : VK), Inv { X with pn := pn', xe := xe' } pins σ H s → t E σ H Q → wpAny (model X.prog X.w) X.A (eval e X.env) (EP { X with pn := pn', xe := xe' } pins σ Q) xe' s
/-- the callee runs, at one store -/
theorem run_at {X : Cx} {CX : CXT} {k : Nat} {f : Addr} {fd : FuncData} {ps : List Str} {sp : Sp} {E : XK} {pins : List (Addr × Obj)} {σ : St} {H : Hp} {s : Shared} {Q : VK} {us : List Value} {vs : List V}
    (F : FnOk X.prog X.w X.K X.mg X.base CX k f fd ps sp) (hr : Room k X.A) (hb : Binds X.K fd ps []) (hx : ∀ (pins : List (Addr × Obj)) (H : Hp) (s : Shared) (v : Value) (s' : Shared), Inv X pins σ H s → CX X.stack H s E v s' → X.xe v s')
    (I : Inv X pins σ H s) (r : Vals vs us) (h : sp vs H Q E) : wpAny (model X.prog X.w) X.A (call (.ref f) us) (EP X pins σ Q) X.xe s := by
  have hl : us.length = ps.length := by rw [← r.length]; exact F.len _ _ _ _ h
  have hb' := hb s us I.kIn (by rw [List.append_nil]; exact hl)
  rw [List.append_nil] at hb'
  refine wpAny_call (codeAny_mono (F.run X.A X.stack s H ⟨us, []⟩ us vs Q E hr I.env0 hb' r h) fun r s' hq => ?_)
  cases r with
  | error v => exact hx pins H s v s' I hq
  | ok fl => cases fl <;> first | exact I.after hq | exact False.elim hq
/-- what a caught exception is known for -/
noncomputable def excO (e : Addr) (cls : Value) : HO := .ext fun h => ∃ o, h.get? e = some o ∧ o.cls = cls ∧ ∃ vs, o.data = .fields vs
noncomputable def tTryAs (K : PySem.W.Frag) (Ck : Addr) (i : Nat) (tb : XK → TE) (ts : TS) : TS := fun D σ H =>
  tb (fun cls _ H1 => PySem.W.exmOne K cls (.ref Ck) = some true ∧ ∀ e, H1 e = none → ts { nx := fun σ' H' => D.nx (σ'.set i none) H', rt := D.rt, bk := fun σ' H' => D.bk (σ'.set i none) H', ct := fun σ' H' => D.ct (σ'.set i none) H' } (σ.set i (some (.ref e))) (upd H1 e (excO e cls))) σ H fun _ H1 => D.nx σ H1
theorem ps_tryAs {X : Cx} {call : Expr} {tb : XK → TE} {c n : Str} {Ck : Addr} {i : Nat} {b₀ : Stmt} {suite : List Stmt} {ts : TS} {ep cp hp pos : Pos}
    (hx : X.ex = []) (hst : X.stack = X.env :: X.outer) (hf : X.env.frame = some X.env.locals) (hN : X.N.Nodup) (hi : X.N[i]? = some n) (hl : X.env.scope.names.lookup n = some .local) (hg : Gl X c) (hm : X.mg c = some (.ref Ck))
    (hb : PEx X call tb) (hs : ∀ e, PSs (X.inExc e) (b₀ :: suite) ts) (hsw : swapsWith call none ep.line X.env = pure false := by rfl) (hd : (c == ("__debug__" : Str)) = false := by decide) :
    PS X (.Try [.Expr call ep] [.ExceptHandler (some (.Name c cp)) (some n) (b₀ :: suite) hp] [] [] pos) (tTryAs X.K Ck i tb ts) := by
  intro pins s σ H D I h
  refine wpAny_Try_except ?_
  unfold tTryAs at h
  generalize hE : (fun (cls : Value) (_ : Option Addr) (H1 : Hp) => PySem.W.exmOne X.K cls (.ref Ck) = some true ∧ ∀ e, H1 e = none → ts { nx := fun σ' H' => D.nx (σ'.set i none) H', rt := D.rt, bk := fun σ' H' => D.bk (σ'.set i none) H', ct := fun σ' H' => D.ct (σ'.set i none) H' } (σ.set i (some (.ref e))) (upd H1 e (excO e cls))) = E at h
  have ok' : ∀ xe', ({ X with pn := X.pn ++ pins, xe := xe' } : Cx).Ok := fun xe' =>
    ⟨I.ok.mod, I.ok.kind, I.ok.glob, I.ok.blt, I.ok.above, I.ok.inj, I.ok.has, I.ok.cab, I.ok.hd, I.ok.frames, I.ok.stk, I.ok.exf, I.ok.bs, I.ok.bsz, I.ok.noex, I.ok.exfs, I.ok.funs, I.ok.frf⟩
  have toX : ∀ {xe' pins' σ' H' s'}, Inv ({ X with pn := X.pn ++ pins, xe := xe' } : Cx) pins' σ' H' s' → Inv X pins σ' H' s' := fun J =>
    ⟨I.ok, J.os, J.bare, J.base, J.loc, J.cell, J.free, J.freeC, fun p hp => J.pin p (List.mem_append_left _ hp), J.hok, J.len⟩
  have I' : Inv ({ X with pn := X.pn ++ pins, xe := fun v s' => ∃ H1 s1, Inv X pins σ H1 s1 ∧ CX1 X.prog X.w X.stack H1 s1 E v s' } : Cx) [] σ H s :=
    ⟨ok' _, I.os, I.bare, I.base, I.loc, I.cell, I.free, I.freeC, fun p hp => I.pin p (by simpa using hp), I.hok, I.len⟩
  have body := hb E σ (X.pn ++ pins) (fun v s' => ∃ H1 s1, Inv X pins σ H1 s1 ∧ CX1 X.prog X.w X.stack H1 s1 E v s') (fun pins' H1 s1 v s' J q => ⟨H1, s1, toX J, q⟩) [] s H _ I' h
  refine wpAny_mono (wpAny_execs_cons (wpAny_Expr_any (thn body fun v s1 q => ?_) I.quiet hsw) : wpAny (model X.prog X.w) X.A (execs [.Expr call ep] X.env) (fun f s1 => f = .next ∧ ∃ H1, Inv X pins σ H1 s1 ∧ D.nx σ H1) _ s) (fun f s1 q => ?_) ?_
  · obtain ⟨x, H1, J, r, q⟩ := q
    exact wpAny_execs_nil ⟨rfl, H1, toX J, q⟩
  · obtain ⟨rfl, H1, J, q⟩ := q
    exact wpAny_execs_nil ⟨σ, H1, J, q⟩
  · rintro v s' ⟨H1, s1, I1, ea, T, cls, H2, rfl, n1, n2, f1, f2, tr, os, bare, un, hok, hE'⟩
    rw [← hE] at hE'
    obtain ⟨hmt, hsu⟩ := hE'
    have I2 : Inv X pins σ H2 s' := I1.call' os un hok bare fun b z => absurd z (by simp)
    have o1 := I1.ours hx n1
    have o2 := I1.ours hx n2
    have u1 : Ours X pins H2 ea := ⟨o1.1, f1, o1.2.1, o1.2.2.1, o1.2.2.2⟩
    have u2 : Ours X pins H2 T := ⟨o2.1, f2, o2.2.1, o2.2.2.1, o2.2.2.2⟩
    have fr : X.A.frames = some (X.env :: X.outer) := by rw [← hst]; exact I.ok.frames
    have fn : s'.heap.FunFrames X.base (X.env :: X.outer) := by rw [← hst]; exact I2.stack
    refine look_tr fr fn hf tr fun h3 T3 tr3 hT3 k3 => ?_
    have I3 : Inv X pins σ H2 { s' with heap := h3 } := I2.exc hx (ch := [ea, T]) (fun b hb => by
      rcases List.mem_cons.mp hb with z | z
      · rw [z]; exact u1
      · rw [show b = T by simpa using z]; exact u2) (by rw [hst]; exact k3)
    have u3 : Ours X pins H2 T3 := by
      rcases hT3 with z | z
      · rw [z]; exact u2
      · have o3 := I2.ours hx z
        exact ⟨o3.1, I2.hok.none z, o3.2.1, o3.2.2.1, o3.2.2.2⟩
    have LT : PySem.W.Looks (model X.prog X.w) h3 (typeOf (.ref ea)) cls := by
      obtain ⟨oe, vs, oT, ts, a0, he, hc, _⟩ := tr3
      subst hc
      exact (PySem.W.Looks.ld he).andThen .now
    refine wpAny_handleBy_cons (codeAny_handlers_test (ld_glob (I3.inExc ea) hg hm ?_ hd)) (by intro q; cases q)
    refine (PySem.W.exm_one (M := model X.prog X.w) I3.kIn LT hmt) _ _ _ _ (fun _ _ q => q) ?_
    show codeAny _ _ (.handlers (.ref ea) [.ExceptHandler none (some n) (b₀ :: suite) hp] X.env) _ _
    refine codeAny_handlers_suite_as (again_tr (base := X.base) (l := X.stack) I3.stack tr3 fun h5 T5 tr5 hT5 k5 => ?_)
    have I5 : Inv X pins σ H2 { s' with heap := h5 } := Inv.exc (s := { s' with heap := h3 }) I3 hx (ch := [ea, T3]) (fun b hb => by
      rcases List.mem_cons.mp hb with z | z
      · rw [z]; exact u1
      · rw [show b = T3 by simpa using z]; exact u3) k5
    refine store_ok2 (X := X.inExc ea) (I5.inExc ea) hN hi (.inl hl) (v := .ref ea) (u := .ref ea) rfl (fun s6 J6 ⟨ad, sb, had⟩ => ?_) (.inr hl)
    have hne : ea ≠ ad := by
      rcases had with z | z
      · rw [z]; exact u1.loc
      · exact fun y => u1.cell n ad z y.symm
    have new : ObjOk X.prog X.w (upd H2 ea (excO ea cls)) s6.heap ea (excO ea cls) := by
      obtain ⟨oe, vs, oT, ts, a0, he, hc, h0, hd, _⟩ := tr5
      have he6 : s6.heap.get? ea = some oe := (sb.2 ea hne).trans he
      refine ⟨⟨oe, he6, hc, vs, hd⟩, ⟨oe, he6⟩, ?_⟩
      rintro h1 h2 ⟨o, q, r⟩ k
      exact ⟨o, k o q, r⟩
    have J7 : Inv (X.inExc ea) pins (σ.set i (some (.ref ea))) (upd H2 ea (excO ea cls)) s6 := J6.track ⟨u1.new, u1.free, u1.loc, u1.cell, u1.pin⟩ new
    refine wpAny_mono (hs ea pins s6 _ _ _ J7 (hsu ea f1)) (fun f s7 q => ?_) (fun _ _ z => z.elim)
    have go : ∀ {σ' : St} {H' : Hp}, Inv (X.inExc ea) pins σ' H' s7 → ∀ (R : Shared → Prop), (∀ s8, Inv X pins (σ'.set i none) H' s8 → R s8) → wpAny (model X.prog X.w) X.A (do bindName X.env n .none; unbindBehindTheSuite X.env n hp) (fun _ s8 => R s8) X.xe s7 := fun {σ' H'} J R hR => by
      have J0 : Inv X pins σ' H' s7 := J.outExc I.ok
      obtain ⟨m, hn, hlk⟩ := J0.loc
      exact wpAny_nameGoes_keeps hl hn (by rw [I.ok.kind]; rfl) fun h' v hn' hs' => hR _ (J0.unbind hN hi hlk hn' hs')
    cases f with
    | next =>
      obtain ⟨σ', H', J, q⟩ := q
      exact go J _ fun s8 J8 => ⟨_, H', J8, q⟩
    | brk =>
      obtain ⟨σ', H', J, q⟩ := q
      exact go J _ fun s8 J8 => ⟨_, H', J8, q⟩
    | cont =>
      obtain ⟨σ', H', J, q⟩ := q
      exact go J _ fun s8 J8 => ⟨_, H', J8, q⟩
    | ret u =>
      obtain ⟨v, σ', H', J, r, q⟩ := q
      exact go J _ fun s8 J8 => ⟨v, _, H', J8, r, q⟩
end L2

set_option Elab.async false
set_option linter.all false
set_option maxRecDepth 100000
set_option maxHeartbeats 4000000
/-! Own words over the layer: a def with all that a caller asks of it, calls, boots, stores. -/
namespace L2
open PySem PySem.Spec PyProof.Rows
/-- a def of the text, its promise, and how it is called -/
structure Def (P : Program) (w : World) (K : PySem.W.Frag) (mg : Str → Option Value) (base : Heap) (x : Str) (ps : List Str) (k : Nat) (sp : Sp) (f : Addr) (fd : FuncData) : Prop where
  ok : FnOk P w K mg base (CX1 P w) k f fd ps sp
  b : Binds K fd ps []
  kp : PySem.W.keepIn K (.ref f) = true
  m : mg x = some (.ref f)
section
variable {X : Cx} {f : Addr} {fd : FuncData} {ps : List Str} {sp : Sp} {x : Str} {p pos : Pos} {e : Expr} {es : List Expr} {t : TA} {j k : Nat}
theorem pcall (D : Def X.prog X.w X.K X.mg X.base x ps j sp f fd) (hr : Room k X.A) (ha : PA X (e :: es) t) (hjk : j ≤ k := by decide) (hg : Gl X x := by rfl)
    (hdb : (x == ("__debug__" : Str)) = false := by decide) (he : starEach (e :: es) X.env = (false, eval e X.env) :: starEach es X.env := by rfl) (hpl : (backTo pos (starEach es X.env)).any (·.1) = false := by rfl) :
    PE X (.Call (.Name x p) (e :: es) [] pos) (tCall sp [] E0 t) := pe_call D.ok (hr.mono hjk) hg D.m D.kp D.b .nil passN ha hdb he hpl
end
theorem bb_isinstance : bootBuiltins "isinstance" = some (.builtin "isinstance") := by decide +kernel
theorem bb_sum : bootBuiltins "sum" = some (.builtin "sum") := by decide +kernel
theorem bb_len : bootBuiltins "len" = some (.builtin "len") := by decide +kernel
theorem Same.upd {H H' : Hp} (h : Same H H') {p : Addr} (n : H p = none) (o : HO) : Same H (L2.upd H' p o) := fun b u q => by
  rw [upd_ne (ne_of_none q n)]; exact h b u q
theorem Same.new {H H' : Hp} (h : Same H H') {p : Addr} (n : H' p = none) (o : HO) : Same H (L2.upd H' p o) := h.trans fun b u q => by
  rw [upd_ne (ne_of_none q n)]; exact q
theorem sz {n : Nat} (h : n ≤ 1000000) : n ≤ sizeLine := Nat.le_trans h (by decide)
theorem sz' {n : Nat} (h : n ≤ 1000000) : n < sizeLine := Nat.lt_of_le_of_lt h (by decide)
theorem atI_int {ns : List Int} {i : Int} (h0 : 0 ≤ i) (h1 : i < (ns.length : Int)) : atI (ns.map V.int) i = some (.int (ns.getD i.toNat 0)) := by
  have hk : i.toNat < ns.length := by omega
  have ek : i = ((i.toNat : Nat) : Int) := by omega
  have q : atI (ns.map V.int) ((i.toNat : Nat) : Int) = some (.int (ns.getD i.toNat 0)) := atI_nat (by rw [List.getElem?_map, List.getD_eq_getElem?_getD, List.getElem?_eq_getElem hk] <;> rfl)
  rw [← ek] at q
  exact q
end L2
namespace L2
open PySem PySem.Spec PyProof.Rows
theorem ttN {σ : St} {H : Hp} {F : Bool → Hp → Prop} (h : F true H) : ttNil σ H F := h
theorem ix_listK {X : Cx} {K : PySem.W.Frag} (h : X.K = K) : IxR X (rIxL K) := h ▸ ix_list
theorem pm {j : Int} (h : 0 < j) : 0 < j := h
theorem log2_small {j : Int} (h0 : 0 < j) (h1 : j < 2 ^ 63) : j.natAbs.log2 < 9000 := by
  have e : j.natAbs < 2 ^ 63 := by omega
  have := (Nat.log2_lt (n := j.natAbs) (k := 63) (by omega)).mpr e
  omega
theorem get_int {ns : List Int} {i : Nat} {x : V} (h : (ns.map V.int)[i]? = some x) : ∃ c, x = .int c := by
  rw [List.getElem?_map] at h
  cases e : ns[i]? with
  | none => rw [e] at h; cases h
  | some c => rw [e] at h; cases h; exact ⟨c, rfl⟩
end L2
namespace L2
open PySem PySem.Spec PyProof.Rows
/-- a sequence cut at what holds between -/
noncomputable def tCut (t u : TS) : TS := fun D σ H => ∃ P : St → Hp → Prop, t { D with nx := P } σ H ∧ ∀ σ' H', P σ' H' → u D σ' H'
theorem pss_cut {X : Cx} {st : Stmt} {rest : List Stmt} {t u : TS} (h1 : PS X st t) (h2 : PSs X rest u) : PSs X (st :: rest) (tCut t u) := by
  intro pins s σ H D I h
  obtain ⟨P, ha, hb⟩ := h
  refine wpAny_execs_cons (thn (h1 pins s σ H { D with nx := P } I ha) fun f s1 q => ?_)
  cases f with
  | next =>
    obtain ⟨σ', H', I', q⟩ := q
    exact h2 pins s1 σ' H' D I' (hb σ' H' q)
  | ret v => exact q
  | brk => exact q
  | cont => exact q
theorem iteP {c A B : Prop} [Decidable c] (hc : c) (h : A) : if decide c = true then A else B := by rw [decide_eq_true hc]; exact iteT h
theorem iteN {c A B : Prop} [Decidable c] (hc : ¬ c) (h : B) : if decide c = true then A else B := by rw [decide_eq_false hc]; exact iteF h
end L2

/-! Mathematics of the counts: the rule, the shares, the rests. No library. -/
namespace Ck
/-- the share by the rule -/
noncomputable def cR : Nat → Int
  | 0 => 1
  | k + 1 => cR k * (4 * (k : Int) + 2) / ((k : Int) + 2)
noncomputable def cN : Nat → Nat
  | 0 => 1
  | k + 1 => cN k * (4 * k + 2) / (k + 2)
theorem cR_cN : ∀ k, cR k = (cN k : Int)
  | 0 => rfl
  | k + 1 => by
    rw [cR, cN, cR_cN k, Int.natCast_ediv, Int.natCast_mul]
    rfl
/-- the shares by sums -/
noncomputable def shL : Nat → List Int
  | 0 => [1]
  | k + 1 => shL k ++ [((List.range (k + 1)).map fun j => (shL k).getD j 0 * (shL k).getD (k - j) 0).sum]
noncomputable def sh (k : Nat) : Int := (shL k).getD k 0
theorem shL_length : ∀ k, (shL k).length = k + 1
  | 0 => rfl
  | k + 1 => by rw [shL, List.length_append, shL_length k]; rfl
theorem shL_get : ∀ (n j : Nat), j ≤ n → (shL n).getD j 0 = sh j
  | 0, j, h => by
    have e : j = 0 := by omega
    subst e; rfl
  | n + 1, j, h => by
    by_cases e : j = n + 1
    · subst e; rfl
    · rw [shL, List.getD_eq_getElem?_getD, List.getElem?_append_left (by rw [shL_length]; omega), ← List.getD_eq_getElem?_getD]
      exact shL_get n j (by omega)
theorem sh_zero : sh 0 = 1 := rfl
theorem sh_succ (k : Nat) : sh (k + 1) = ((List.range (k + 1)).map fun j => sh j * sh (k - j)).sum := by
  have e : sh (k + 1) = ((List.range (k + 1)).map fun j => (shL k).getD j 0 * (shL k).getD (k - j) 0).sum := by
    unfold sh
    rw [shL, List.getD_eq_getElem?_getD, List.getElem?_append_right (by rw [shL_length]; omega), shL_length, Nat.sub_self]
    rfl
  rw [e]
  congr 1
  refine List.map_congr_left fun j hj => ?_
  have := List.mem_range.mp hj
  rw [shL_get k j (by omega), shL_get k (k - j) (by omega)]
theorem shL_eq (n : Nat) : shL n = (List.range (n + 1)).map sh := by
  refine List.ext_getElem? fun i => ?_
  by_cases h : i < n + 1
  · rw [List.getElem?_map, List.getElem?_range h]
    have := shL_get n i (by omega)
    rw [List.getD_eq_getElem?_getD, List.getElem?_eq_getElem (by rw [shL_length]; omega)] at this
    rw [List.getElem?_eq_getElem (by rw [shL_length]; omega)]
    exact congrArg some this
  · rw [List.getElem?_eq_none (by rw [shL_length]; omega), List.getElem?_eq_none (by simp; omega)]
theorem shL_snoc (k : Nat) : shL (k + 1) = shL k ++ [sh (k + 1)] := by
  rw [shL_eq, shL_eq, List.range_succ (n := k + 1), List.map_append]; rfl
/-- the shares are the rule's, as far as is asked: by reckoning -/
noncomputable def shN : Nat → List Nat
  | 0 => [1]
  | k + 1 => shN k ++ [((List.range (k + 1)).map fun j => (shN k).getD j 0 * (shN k).getD (k - j) 0).sum]
theorem cast_sum : ∀ l : List Nat, ((l.sum : Nat) : Int) = (l.map fun n : Nat => (n : Int)).sum
  | [] => rfl
  | a :: l => by rw [List.sum_cons, List.map_cons, List.sum_cons, Int.natCast_add, cast_sum l]
theorem getD_cast (l : List Nat) (j : Nat) : (l.map fun n : Nat => (n : Int)).getD j 0 = ((l.getD j 0 : Nat) : Int) := by
  rw [List.getD_eq_getElem?_getD, List.getElem?_map, List.getD_eq_getElem?_getD]
  cases l[j]? <;> rfl
theorem shL_shN : ∀ k, shL k = (shN k).map fun n : Nat => (n : Int)
  | 0 => rfl
  | k + 1 => by
    rw [shL, shN, List.map_append, shL_shN k]
    congr 1
    rw [List.map_cons, List.map_nil, cast_sum, List.map_map]
    congr 2
    refine List.map_congr_left fun j _ => ?_
    rw [getD_cast, getD_cast]
    exact (Int.natCast_mul _ _).symm
theorem shN_cN : shN 61 = (List.range 62).map cN := by decide +kernel
theorem sh_cR {k : Nat} (h : k ≤ 61) : sh k = cR k := by
  rw [cR_cN, ← shL_get 61 k h, shL_shN, getD_cast, shN_cN, List.getD_eq_getElem?_getD, List.getElem?_map, List.getElem?_range (by omega)]
  rfl
theorem cN_small : ((List.range 37).all fun k => decide (cN k < 18446744073709551616)) = true := by decide +kernel
theorem sh_small {k : Nat} (h : k ≤ 36) : 0 ≤ sh k ∧ sh k < 2 ^ 64 := by
  rw [sh_cR (by omega), cR_cN]
  have q := List.all_eq_true.mp cN_small k (List.mem_range.mpr (by omega))
  have q' := of_decide_eq_true q
  have e : (2 : Int) ^ 64 = 18446744073709551616 := by decide
  omega
end Ck

/-! Mathematics of the rests and of the places of texts. -/
namespace Ck
/-- r(u, d) -/
noncomputable def r : Nat → Nat → Int
  | 0, _ => 1
  | _ + 1, 0 => 0
  | u + 1, d + 1 => if d < u then 0 else r u (d + 1) + r (u + 1) d
/-- the row of u for a size n -/
noncomputable def row (n u : Nat) : List Int := (List.range (n + 1 - u)).map fun i => r u (u + i)
/-- the product of k factors -/
noncomputable def pw (a : Int) : Nat → Int
  | 0 => 1
  | k + 1 => pw a k * a
end Ck

/-! Mathematics of texts that close: signs are codes, 40 is the opening one, 41 the closing one. u of the first and d of the second are still to come. -/
namespace Ck
/-- the order of texts, the opening sign first -/
noncomputable def lt : List Nat → List Nat → Bool
  | c :: s, e :: t => if c = e then lt s t else c == 40
  | _, _ => false
end Ck

set_option Elab.async false
set_option linter.all false
set_option maxRecDepth 100000
set_option maxHeartbeats 4000000
/-! Texts as lists of codes: slices, counts, repeats. -/
namespace Ck
open PySem
/-- a bound of a slice as a place -/
noncomputable def ix (n d : Nat) : Option Int → Nat
  | none => d
  | some v => if v < 0 then (v + (n : Int)).toNat else min v.toNat n
end Ck

set_option Elab.async false
set_option linter.all false
set_option maxRecDepth 100000
set_option maxHeartbeats 4000000
/-! Where the mathematics and the layer meet. -/
namespace Ck
open PySem L2
/-- a product of two shares that come to at most 59: one of both is small -/
theorem mul_ok {i j : Nat} (h : i + j ≤ 60) : CMul (sh i) (sh j) := by
  have two : (0 : Int) < 2 ^ 64 := by decide
  by_cases hi : i ≤ 36
  · have := sh_small hi
    exact .inl ⟨by omega, this.2⟩
  · have := sh_small (k := j) (by omega)
    exact .inr ⟨by omega, this.2⟩
end Ck
namespace L2
open PySem
end L2
namespace Ck
open PySem L2
end Ck
namespace L2
open PySem PySem.Spec PyProof.Rows
end L2
namespace Ck
open PySem L2
end Ck

set_option Elab.async false
set_option linter.all false
set_option maxRecDepth 100000
set_option maxHeartbeats 4000000
/-! Own rules over the layer: a range that goes down, lists compared, isinstance of an exception. -/
namespace L2
open PySem PySem.Spec PyProof.Rows
section
variable {X : Cx} {tg : Expr}
end

/-! ### lists of plain values compared -/
noncomputable def eqL : List V → List V → Bool
  | [], [] => true
  | x :: xs, y :: ys => eqV x y && eqL xs ys
  | _, _ => false
theorem eqL_len : ∀ {xs ys : List V}, xs.length ≠ ys.length → eqL xs ys = false
  | [], [], h => absurd rfl h
  | [], _ :: _, _ => rfl
  | _ :: _, [], _ => rfl
  | x :: xs, y :: ys, h => by
    rw [eqL, eqL_len (xs := xs) (ys := ys) (by simpa using h), Bool.and_false]
theorem eqL_all : ∀ {xs ys : List V}, xs.length = ys.length → (List.range xs.length).all (fun j => eqV (xs.getD j .non) (ys.getD j .non)) = eqL xs ys
  | [], [], _ => rfl
  | x :: xs, y :: ys, h => by
    rw [eqL, ← eqL_all (xs := xs) (ys := ys) (by simpa using h), List.length_cons, List.range_succ_eq_map, List.all_cons, List.all_map]
    rfl
noncomputable def rEqL (K : PySem.W.Frag) (neg : Bool) : R2 := fun x y H Q => ∃ a b xs ys, x = .ref a ∧ y = .ref b ∧ SqL K H a xs ∧ SqL K H b ys ∧ xs.all flatV = true ∧ ys.all flatV = true ∧ Q (.bl (if neg then !eqL xs ys else eqL xs ys)) H
section
variable {X : Cx}
theorem items_eqAt {A : Around} {s : Shared} {xs ys : List V} {us vs : List Value} (r : Vals xs us) (r' : Vals ys vs) (fx : xs.all flatV = true) (fy : ys.all flatV = true) :
    ∀ j (h1 : j < us.toArray.size) (h2 : j < vs.toArray.size), SeqAt.EqAt A s us.toArray[j] vs.toArray[j] (eqV (xs.getD j .non) (ys.getD j .non)) := fun j h1 h2 => by
  have l1 := r.length
  have l2 := r'.length
  have h1' : j < us.length := by simpa using h1
  have h2' : j < vs.length := by simpa using h2
  obtain ⟨u, eu, ru⟩ := r.get (List.getElem?_eq_getElem (show j < xs.length by omega))
  obtain ⟨v, ev, rv⟩ := r'.get (List.getElem?_eq_getElem (show j < ys.length by omega))
  have e1 : us.toArray[j] = u := by
    rw [List.getElem?_eq_getElem h1'] at eu
    simpa using eu
  have e2 : vs.toArray[j] = v := by
    rw [List.getElem?_eq_getElem h2'] at ev
    simpa using ev
  rw [e1, e2]
  have g1 : xs.getD j .non = xs[j]'(by omega) := by rw [List.getD_eq_getElem?_getD, List.getElem?_eq_getElem (show j < xs.length by omega)]; rfl
  have g2 : ys.getD j .non = ys[j]'(by omega) := by rw [List.getD_eq_getElem?_getD, List.getElem?_eq_getElem (show j < ys.length by omega)]; rfl
  rw [g1, g2]
  exact eqAt_V ru rv (List.all_eq_true.mp fx _ (List.getElem_mem _)) (List.all_eq_true.mp fy _ (List.getElem_mem _))
theorem op_eq_list (hu : X.A.units < cLine) : OpR X (compareOp .Eq) (rEqL X.K false) := by
  intro pins s σ H x y v u Q I rx ry h
  obtain ⟨a, b, xs, ys, rfl, rfl, ha, hb, fx, fy, q⟩ := h
  cases rx
  cases ry
  obtain ⟨us, r, pl, hz⟩ := I.list ha
  obtain ⟨vs, r', pl', hz'⟩ := I.list hb
  have l1 := r.length
  have l2 := r'.length
  by_cases hl : xs.length = ys.length
  · refine SeqAt.eq_listAt (e := fun j => eqV (xs.getD j .non) (ys.getD j .non)) pl.isList pl'.isList (by simp; omega) hu (items_eqAt r r' fx fy) ⟨.bl _, H, I, rfl, ?_⟩
    rw [show us.toArray.size = xs.length by simp; omega, eqL_all hl]
    exact q
  · refine SeqAt.eq_list_lengthsAt pl.isList pl'.isList (by simp; omega) hu ⟨.bl false, H, I, rfl, ?_⟩
    rw [← eqL_len hl]
    exact q
theorem op_ne_list (hu : X.A.units < cLine) : OpR X (compareOp .NotEq) (rEqL X.K true) := by
  intro pins s σ H x y v u Q I rx ry h
  obtain ⟨a, b, xs, ys, rfl, rfl, ha, hb, fx, fy, q⟩ := h
  cases rx
  cases ry
  obtain ⟨us, r, pl, hz⟩ := I.list ha
  obtain ⟨vs, r', pl', hz'⟩ := I.list hb
  have l1 := r.length
  have l2 := r'.length
  by_cases hl : xs.length = ys.length
  · refine SeqAt.RcNeAt.lists (e := fun j => eqV (xs.getD j .non) (ys.getD j .non)) pl.isList pl'.isList (by simp; omega) hu (items_eqAt r r' fx fy) _ _ _ _ ⟨.bl _, H, I, rfl, ?_⟩
    rw [show us.toArray.size = xs.length by simp; omega, eqL_all hl]
    exact q
  · refine SeqAt.RcNeAt.lists_lengths pl.isList pl'.isList (by simp; omega) hu _ _ _ _ ⟨.bl true, H, I, rfl, ?_⟩
    have z := eqL_len hl
    rw [z] at q
    exact q
end
end L2

set_option Elab.async false
set_option linter.all false
set_option maxRecDepth 100000
set_option maxHeartbeats 4000000
/-! Own rules: what isinstance says of a caught exception; the program's classes of refusals. -/
namespace L2
open PySem PySem.Spec PyProof.Rows PySem.W Builtin Builtin.ObjectAttr Builtin.Getset_descriptor
/-- what of an own class of exceptions is asked -/
noncomputable def excK (K : Frag) (C : Addr) : Bool :=
  findIn K (.ref C) "__getattribute__" == some (some (.builtin "BaseException.__getattribute__")) && findIn K (.ref C) "__getattr__" == some none &&
  findIn K (.ref C) "__class__" == some (some (.builtin "object.__class__")) && specialIn K (.builtin "object.__class__") "__get__" == some (some (.builtin "getset_descriptor.__get__")) &&
  takesIn K (.builtin "object.__class__") == some true && mroIn K C (.type "object") == some true && mroIn K C (.type "BaseException") == some true && (clsIn K C).isSome
structure ExcK (K : Frag) (C : Addr) : Prop where
  ga : findIn K (.ref C) "__getattribute__" = some (some (.builtin "BaseException.__getattribute__"))
  gh : findIn K (.ref C) "__getattr__" = some none
  cl : findIn K (.ref C) "__class__" = some (some (.builtin "object.__class__"))
  gt : specialIn K (.builtin "object.__class__") "__get__" = some (some (.builtin "getset_descriptor.__get__"))
  tk : takesIn K (.builtin "object.__class__") = some true
  mo : mroIn K C (.type "object") = some true
  mb : mroIn K C (.type "BaseException") = some true
  is : (clsIn K C).isSome = true
theorem excK_of {K : Frag} {C : Addr} (h : excK K C = true) : ExcK K C := by
  unfold excK at h
  simp only [Bool.and_eq_true, beq_iff_eq] at h
  obtain ⟨⟨⟨⟨⟨⟨⟨a, b⟩, c⟩, d⟩, e⟩, f⟩, g⟩, i⟩ := h
  exact ⟨a, b, c, d, e, f, g, i⟩
section
variable {K : Frag} {e C : Addr} {M : Model} {h : Heap} {prog : Program} {w : World} {A : Around} {E : Value → Shared → Prop} {s : Shared}
/-- an exception of the class at C lies at e -/
noncomputable def IsX (e C : Addr) (h : Heap) : Prop := ∃ o, h.get? e = some o ∧ o.cls = .ref C ∧ ∃ vs, o.data = .fields vs
theorem IsX.ty (x : IsX e C h) : Looks M h (typeOf (.ref e)) (.ref C) := by
  obtain ⟨o, ho, hc, _⟩ := x
  rw [← hc]
  exact (Looks.ld ho).andThen .now
theorem ExcK.find (F : ExcK K C) (X : K.In h) (x : Value) : Looks M h (Builtin.ObjectAttr.find x (.ref C) "__class__") (.bind (.builtin "getset_descriptor.__get__") (.builtin "object.__class__")) := by
  unfold Builtin.ObjectAttr.find
  refine (looks_findIn X F.cl).andThen ?_
  refine Looks.andThen (a := some (.builtin "getset_descriptor.__get__")) (looks_specialIn X F.gt) ?_
  refine Looks.andThen (a := some (.builtin "getset_descriptor.__get__", .builtin "object.__class__")) ?_ (Looks.tag .now)
  exact (looks_takesIn X F.tk).andThen .now
end
section
variable {K : Frag} {e C : Addr} {M : Model} {h : Heap} {prog : Program} {w : World} {A : Around} {E : Value → Shared → Prop} {s : Shared}
theorem ExcK.got (F : ExcK K C) {R : Result → Shared → Prop} {tp : Value} (X : K.In s.heap) (I : IsX e C s.heap) (q : R (.ok (.ret (.ref C))) s) :
    codeAny (model prog w) A (.call (.builtin "getset_descriptor.__get__") ⟨[.builtin "object.__class__", .ref e, tp], []⟩) R s := by
  obtain ⟨hh, g, dr, t, os⟩ := s
  have L0 := I.ty (M := model prog w)
  have L1 := looks_mroIn (M := model prog w) X F.mo
  refine codeAny_call_builtin KF.slot_gs.plain KF.entry_gs (KF.slot_gs.check _ _ _ _ _ _ _ _ KF.type_class (KF.args_gs _ _ _) ?_)
  unfold Builtin.«getset_descriptor.__get__» descrGet
  rw [dga_obj]
  refine wpAny_bind (wpAny_pure ?_)
  unfold descrGetter descrCheckInstance descrNameAndClass isInstance
  simp only [KF.owner_class]
  repeat lk
  refine ⟨Code.quiet_builtin _ (by decide +kernel), codeAny_builtin KF.entry_class ?_⟩
  unfold Builtin.«object.__class__» shownTypeOf
  repeat lk
  exact q
theorem ExcK.checked (F : ExcK K C) {nv : Value} {Q : Unit → Shared → Prop} (X : K.In s.heap) (I : IsX e C s.heap) (q : Q () s) : wpAny M A (checkBuiltinCall "BaseException.__getattribute__" ⟨[.ref e, nv], []⟩) Q E s := by
  obtain ⟨hh, g, dr, t, os⟩ := s
  have LI : Looks M hh (isInstance (.ref e) (.type "BaseException")) true := I.ty.andThen (looks_mroIn X F.mb)
  have e1 : builtinKind "BaseException.__getattribute__" = some .slot := (by decide +kernel)
  have e2 : splitId "BaseException.__getattribute__" = some (("BaseException", "__getattribute__") : String × String) := by decide +kernel
  have e3 := PySem.F.args_bexc_ga (.ref e) nv
  simp only [checkBuiltinCall, e1, e2]
  refine wpAny_bind (LI.at ?_)
  repeat (first | assumption | wp_step)
theorem ExcK.attr (F : ExcK K C) {tk : Tok} {Q : Value → Shared → Prop} (X : K.In s.heap) (I : IsX e C s.heap) (q : Q (.ref C) s) : wpAny (model prog w) A (getAttrBy (.ref e) (.str "__class__" tk) false false) Q E s := by
  obtain ⟨hh, g, dr, t, os⟩ := s
  have L0 := I.ty (M := model prog w)
  have L1 := looks_findIn (M := model prog w) X F.ga
  have L2 := looks_findIn (M := model prog w) X F.gh
  have L3 := F.find (M := model prog w) X (.ref e)
  have b := PySem.F.attr_ValueError.ga.bind (.ref e)
  unfold getAttrBy
  refine wpAny_holding (wpAny_bind (L0.at (wpAny_bind (L1.at ?_))))
  show wpAny _ _ (getAttrByItsOwn _ _ _ _ _ _) _ _ _
  unfold getAttrByItsOwn hookBefore
  refine wpAny_bind (L2.at ?_)
  refine wpAny_bind (wpAny_attempt (wpAny_holding ?_))
  show wpAny _ _ (boundAndCalled _ _ _) _ _ _
  unfold boundAndCalled
  rw [b]
  refine wpAny_bind (wpAny_pure (wpAny_call (codeAny_call_builtin PySem.F.attr_ValueError.ga.plain PySem.F.entry_bexc_ga (F.checked X I ?_))))
  show wpAny _ _ (Builtin.«object.__getattribute__» ⟨[.ref e, .str "__class__" tk], []⟩) _ _ _
  unfold Builtin.«object.__getattribute__»
  repeat lk
  show wpAny _ _ (run (.call (.builtin "getset_descriptor.__get__") ⟨[.builtin "object.__class__", .ref e, .ref C], []⟩) none) _ _ _
  refine wpAny_run (h := none) (F.got X I ?_)
  show wpAny _ _ (pure (Value.ref C)) _ _ _
  refine wpAny_pure ?_
  show wpAny _ _ (ret (.ref C)) _ _ _
  refine wpAny_pure ?_
  exact handed_on rfl q
theorem kitx_exc (F : ExcK K C) : KitX K (.ref e) (.ref C) (IsX e C) where
  ty := fun _ _ _ I => I.ty
  it := fun _ _ X _ => by
    have hc := F.is
    unfold clsIn at hc
    split at hc
    · rename_i ho
      intro A' Q' E' s' k q
      unfold isType loadHead
      exact wpAny_bind (wpAny_loadPart (k _ _ (X _ _ ho)) (wpAny_pure q))
    · cases hc
  ne := fun h tp dd its n sl X htp => by
    have hc := F.is
    refine Bool.eq_false_iff.mpr fun q => ?_
    have z : C = tp := Value.ref.inj (beq_iff_eq.mp q)
    subst z
    unfold clsIn at hc
    split at hc
    · rename_i ho
      have z := (X _ _ ho).symm.trans htp
      cases z
    · cases hc
  ca := fun {prog w A E Q s} X I q => by
    obtain ⟨hh, g, d, t, os⟩ := s
    unfold getAttr? getAttrBy?
    refine wpAny_bind (wpAny_mkText (wpAny_bind (wpAny_attempt (F.attr (s := ⟨hh, g, d, t + 1, os⟩) X I ?_))))
    exact wpAny_pure q
end
/-- where the classes of refusals lie -/
structure Errs where
  kin : Addr
  size : Addr
  number : Addr
  thing : Addr
  family : Addr
  way : Addr
  apart : Addr
  mark : Addr
  text : Addr
  broken : Addr
noncomputable def errTab (K : Frag) (er : Errs) : Bool :=
  (excIn K er.size veB "ValueError.__new__") &&
  (excK K er.size) &&
  (exmOne K (.ref er.size) (.ref er.kin) == some true) &&
  (kitOne K (.ref er.size) (.type "ValueError") == some true) &&
  (kitOne K (.ref er.size) (.ref er.size) == some true) &&
  (kitOne K (.ref er.size) (.ref er.number) == some false) &&
  (kitOne K (.ref er.size) (.ref er.thing) == some false) &&
  (kitOne K (.ref er.size) (.ref er.family) == some false) &&
  (kitOne K (.ref er.size) (.ref er.way) == some false) &&
  (kitOne K (.ref er.size) (.ref er.apart) == some false) &&
  (kitOne K (.ref er.size) (.ref er.mark) == some false) &&
  (kitOne K (.ref er.size) (.ref er.text) == some false) &&
  (kitOne K (.ref er.size) (.ref er.broken) == some false) &&
  (excIn K er.number veB "ValueError.__new__") &&
  (excK K er.number) &&
  (exmOne K (.ref er.number) (.ref er.kin) == some true) &&
  (kitOne K (.ref er.number) (.type "ValueError") == some true) &&
  (kitOne K (.ref er.number) (.ref er.size) == some false) &&
  (kitOne K (.ref er.number) (.ref er.number) == some true) &&
  (kitOne K (.ref er.number) (.ref er.thing) == some false) &&
  (kitOne K (.ref er.number) (.ref er.family) == some false) &&
  (kitOne K (.ref er.number) (.ref er.way) == some false) &&
  (kitOne K (.ref er.number) (.ref er.apart) == some false) &&
  (kitOne K (.ref er.number) (.ref er.mark) == some false) &&
  (kitOne K (.ref er.number) (.ref er.text) == some false) &&
  (kitOne K (.ref er.number) (.ref er.broken) == some false) &&
  (excIn K er.thing veB "ValueError.__new__") &&
  (excK K er.thing) &&
  (exmOne K (.ref er.thing) (.ref er.kin) == some true) &&
  (kitOne K (.ref er.thing) (.type "ValueError") == some true) &&
  (kitOne K (.ref er.thing) (.ref er.size) == some false) &&
  (kitOne K (.ref er.thing) (.ref er.number) == some false) &&
  (kitOne K (.ref er.thing) (.ref er.thing) == some true) &&
  (kitOne K (.ref er.thing) (.ref er.family) == some false) &&
  (kitOne K (.ref er.thing) (.ref er.way) == some false) &&
  (kitOne K (.ref er.thing) (.ref er.apart) == some false) &&
  (kitOne K (.ref er.thing) (.ref er.mark) == some false) &&
  (kitOne K (.ref er.thing) (.ref er.text) == some false) &&
  (kitOne K (.ref er.thing) (.ref er.broken) == some false)
structure ErrOk (K : Frag) (mg : Str → Option Value) (er : Errs) : Prop where
  m_kin : mg "KinError" = some (.ref er.kin)
  m_size : mg "NoSize" = some (.ref er.size)
  m_number : mg "NoNumber" = some (.ref er.number)
  m_thing : mg "NoThing" = some (.ref er.thing)
  m_family : mg "NoFamily" = some (.ref er.family)
  m_way : mg "NoWay" = some (.ref er.way)
  m_apart : mg "Apart" = some (.ref er.apart)
  m_mark : mg "NoMark" = some (.ref er.mark)
  m_text : mg "NoText" = some (.ref er.text)
  m_broken : mg "Broken" = some (.ref er.broken)
  x_size : excI K er.size
  k_size : ExcK K er.size
  c_size : exmOne K (.ref er.size) (.ref er.kin) = some true
  size_value : kitOne K (.ref er.size) (.type "ValueError") = some true
  size_size : kitOne K (.ref er.size) (.ref er.size) = some true
  size_number : kitOne K (.ref er.size) (.ref er.number) = some false
  size_thing : kitOne K (.ref er.size) (.ref er.thing) = some false
  size_family : kitOne K (.ref er.size) (.ref er.family) = some false
  size_way : kitOne K (.ref er.size) (.ref er.way) = some false
  size_apart : kitOne K (.ref er.size) (.ref er.apart) = some false
  size_mark : kitOne K (.ref er.size) (.ref er.mark) = some false
  size_text : kitOne K (.ref er.size) (.ref er.text) = some false
  size_broken : kitOne K (.ref er.size) (.ref er.broken) = some false
  x_number : excI K er.number
  k_number : ExcK K er.number
  c_number : exmOne K (.ref er.number) (.ref er.kin) = some true
  number_value : kitOne K (.ref er.number) (.type "ValueError") = some true
  number_size : kitOne K (.ref er.number) (.ref er.size) = some false
  number_number : kitOne K (.ref er.number) (.ref er.number) = some true
  number_thing : kitOne K (.ref er.number) (.ref er.thing) = some false
  number_family : kitOne K (.ref er.number) (.ref er.family) = some false
  number_way : kitOne K (.ref er.number) (.ref er.way) = some false
  number_apart : kitOne K (.ref er.number) (.ref er.apart) = some false
  number_mark : kitOne K (.ref er.number) (.ref er.mark) = some false
  number_text : kitOne K (.ref er.number) (.ref er.text) = some false
  number_broken : kitOne K (.ref er.number) (.ref er.broken) = some false
  x_thing : excI K er.thing
  k_thing : ExcK K er.thing
  c_thing : exmOne K (.ref er.thing) (.ref er.kin) = some true
  thing_value : kitOne K (.ref er.thing) (.type "ValueError") = some true
  thing_size : kitOne K (.ref er.thing) (.ref er.size) = some false
  thing_number : kitOne K (.ref er.thing) (.ref er.number) = some false
  thing_thing : kitOne K (.ref er.thing) (.ref er.thing) = some true
  thing_family : kitOne K (.ref er.thing) (.ref er.family) = some false
  thing_way : kitOne K (.ref er.thing) (.ref er.way) = some false
  thing_apart : kitOne K (.ref er.thing) (.ref er.apart) = some false
  thing_mark : kitOne K (.ref er.thing) (.ref er.mark) = some false
  thing_text : kitOne K (.ref er.thing) (.ref er.text) = some false
  thing_broken : kitOne K (.ref er.thing) (.ref er.broken) = some false
theorem errOk {K : Frag} {mg : Str → Option Value} {er : Errs} (h : errTab K er = true) (h_kin : mg "KinError" = some (.ref er.kin)) (h_size : mg "NoSize" = some (.ref er.size)) (h_number : mg "NoNumber" = some (.ref er.number)) (h_thing : mg "NoThing" = some (.ref er.thing)) (h_family : mg "NoFamily" = some (.ref er.family)) (h_way : mg "NoWay" = some (.ref er.way)) (h_apart : mg "Apart" = some (.ref er.apart)) (h_mark : mg "NoMark" = some (.ref er.mark)) (h_text : mg "NoText" = some (.ref er.text)) (h_broken : mg "Broken" = some (.ref er.broken)) : ErrOk K mg er := by
  unfold errTab at h
  simp only [Bool.and_eq_true, beq_iff_eq] at h
  obtain ⟨⟨⟨⟨⟨⟨⟨⟨⟨⟨⟨⟨⟨⟨⟨⟨⟨⟨⟨⟨⟨⟨⟨⟨⟨⟨⟨⟨⟨⟨⟨⟨⟨⟨⟨⟨⟨⟨q0, q1⟩, q2⟩, q3⟩, q4⟩, q5⟩, q6⟩, q7⟩, q8⟩, q9⟩, q10⟩, q11⟩, q12⟩, q13⟩, q14⟩, q15⟩, q16⟩, q17⟩, q18⟩, q19⟩, q20⟩, q21⟩, q22⟩, q23⟩, q24⟩, q25⟩, q26⟩, q27⟩, q28⟩, q29⟩, q30⟩, q31⟩, q32⟩, q33⟩, q34⟩, q35⟩, q36⟩, q37⟩, q38⟩ := h
  exact ⟨h_kin, h_size, h_number, h_thing, h_family, h_way, h_apart, h_mark, h_text, h_broken, q0, excK_of q1, q2, q3, q4, q5, q6, q7, q8, q9, q10, q11, q12, q13, excK_of q14, q15, q16, q17, q18, q19, q20, q21, q22, q23, q24, q25, q26, excK_of q27, q28, q29, q30, q31, q32, q33, q34, q35, q36, q37, q38⟩
section
variable {X : Cx}
theorem call_isinstX : CallR X (.builtin "isinstance") (fun xs H Q => ∃ e c cv C b, xs = [.ref e, c] ∧ (∀ u, RelV c u → u = cv) ∧ H e = some (excO e (.ref C)) ∧ ExcK X.K C ∧ kitOne X.K (.ref C) cv = some b ∧ Q (.bl b) H) := by
  intro pins s σ H xs us Q I r h
  obtain ⟨e, c, cv, C, b, rfl, hcv, he, F, k, q⟩ := h
  obtain ⟨u, v, rfl, r1, r2⟩ := vals2 r
  rw [hcv v r2]
  cases (show u = Value.ref e from r1)
  obtain ⟨ix, _⟩ := (show ObjOk X.prog X.w H s.heap e (excO e (.ref C)) from I.hok e _ he)
  exact kia_one (kitx_exc F) I.kIn ix k (fun z => nomatch z) fun tk => ⟨.bl b, H, I.tok _, rfl, q⟩
theorem relRef {a : Addr} : ∀ u, RelV (.ref a) u → u = Value.ref a := fun _ h => h
theorem hu0 {A : Around} {k : Nat} (hr : Room k A) : A.units < cLine := Nat.lt_of_succ_lt (hu_of hr)
end
theorem bb_ValueError : bootBuiltins "ValueError" = some (.type "ValueError") := by decide +kernel
theorem eqL_one (t : Str) : eqL [.str t] [.str t] = true := by simp [eqL, eqV]
theorem ne_told {K : Frag} {t : Str} {p : Addr} {H1 : Hp} {σ : St} {Q' : VK} (hp : H1 p = some (.lst [.str t])) (q : ∀ H2, Same H1 H2 → Q' (.bl false) H2) :
    tLst (tCons (tC (.str t)) tNil) σ H1 (fun y H2 => rEqL K true (.ref p) y H2 Q') :=
  ⟨sz (n := 1) (by decide), fun l hl => ⟨p, l, _, _, rfl, rfl, SqL.of ((upd_ne (ne_of_none hp hl)).trans hp), SqL.of upd_same, rfl, rfl, by
    show Q' (.bl (!eqL [.str t] [.str t])) _
    rw [eqL_one]
    exact q _ (Same.new (Same.refl _) hl _)⟩⟩
end L2
namespace Ck
open PySem L2
end Ck

set_option Elab.async false
set_option linter.all false
set_option maxRecDepth 100000
set_option maxHeartbeats 4000000
/-! Own rules: methods with all that a caller asks of them, tried ones too; except without a name. -/
namespace L2
open PySem PySem.Spec PyProof.Rows
/-- a method of the text (or any def that is not called by its name), its promise, and how it is called -/
structure MDef (P : Program) (w : World) (K : PySem.W.Frag) (mg : Str → Option Value) (base : Heap) (ps : List Str) (k : Nat) (sp : Sp) (f : Addr) (fd : FuncData) : Prop where
  ok : FnOk P w K mg base (CX1 P w) k f fd ps sp
  b : Binds K fd ps []
section
variable {X : Cx} {C f : Addr} {fd : FuncData} {ps : List Str} {sp : Sp} {m : Str} {apos pos : Pos} {o e : Expr} {es : List Expr} {ta : TE} {t : TA} {j k : Nat}
theorem pmeth {pl : Sem Bool} (ho : PE X o ta) (c : Cls X.K C) (hm : Meth X.K C m f) (D : MDef X.prog X.w X.K X.mg X.base ps j sp f fd) (hr : Room k X.A) (ha : PA X (e :: es) t) (hjk : j ≤ k := by decide)
    (hst : starEach (e :: es) X.env = (false, eval e X.env) :: starEach es X.env := by rfl) (hpl : (backTo pos (starEach es X.env)).any (·.1) = false := by rfl)
    (ht : eval (.Call (.Attribute o m apos) (e :: es) [] pos) X.env = (do
      let ov ← eval o X.env
      standAt apos.atName
      let (f, first) ← holding [ov] (getMethod ov m pl)
      callWith pos f first (backTo pos (starEach (e :: es) X.env)) (backToKw pos (keywordEach [] X.env))) := by rfl) :
    PE X (.Call (.Attribute o m apos) (e :: es) [] pos) (tMeth C m sp [] E0 ta t) := pe_meth ho c hm D.ok (hr.mono hjk) D.b .nil passN ha hst hpl ht
theorem pmeth0 {pl : Sem Bool} (ho : PE X o ta) (c : Cls X.K C) (hm : Meth X.K C m f) (D : MDef X.prog X.w X.K X.mg X.base ps j sp f fd) (hr : Room k X.A) (hjk : j ≤ k := by decide)
    (ht : eval (.Call (.Attribute o m apos) [] [] pos) X.env = (do
      let ov ← eval o X.env
      standAt apos.atName
      let (f, first) ← holding [ov] (getMethod ov m pl)
      callWith pos f first (backTo pos (starEach [] X.env)) (backToKw pos (keywordEach [] X.env))) := by rfl) :
    PE X (.Call (.Attribute o m apos) [] [] pos) (tMeth C m sp [] E0 ta tNil) := pe_meth0 ho c hm D.ok (hr.mono hjk) D.b .nil passN ht
theorem pmethT {E : XK} (T : Thr X E) {pl : Sem Bool} (ho : PE X o ta) (c : Cls X.K C) (hm : Meth X.K C m f) (D : MDef X.prog X.w X.K X.mg X.base ps j sp f fd) (hr : Room k X.A) (ha : PA X (e :: es) t) (hjk : j ≤ k := by decide)
    (hst : starEach (e :: es) X.env = (false, eval e X.env) :: starEach es X.env := by rfl) (hpl : (backTo pos (starEach es X.env)).any (·.1) = false := by rfl)
    (ht : eval (.Call (.Attribute o m apos) (e :: es) [] pos) X.env = (do
      let ov ← eval o X.env
      standAt apos.atName
      let (f, first) ← holding [ov] (getMethod ov m pl)
      callWith pos f first (backTo pos (starEach (e :: es) X.env)) (backToKw pos (keywordEach [] X.env))) := by rfl) :
    PE X (.Call (.Attribute o m apos) (e :: es) [] pos) (tMeth C m sp [] E ta t) := pe_meth ho c hm D.ok (hr.mono hjk) D.b .nil T.pass ha hst hpl ht
/-- a method that is tried -/
theorem px_meth {pl : Sem Bool} (ho : ∀ (pn' : List (Addr × Obj)) (xe' : Value → Shared → Prop), PE { X with pn := pn', xe := xe' } o ta) (c : Cls X.K C) (hm : Meth X.K C m f) (D : MDef X.prog X.w X.K X.mg X.base ps j sp f fd) (hr : Room k X.A)
    (ha : ∀ (pn' : List (Addr × Obj)) (xe' : Value → Shared → Prop), PA { X with pn := pn', xe := xe' } (e :: es) t) (hjk : j ≤ k := by decide)
    (hst : starEach (e :: es) X.env = (false, eval e X.env) :: starEach es X.env := by rfl) (hpl : (backTo pos (starEach es X.env)).any (·.1) = false := by rfl)
    (ht : eval (.Call (.Attribute o m apos) (e :: es) [] pos) X.env = (do
      let ov ← eval o X.env
      standAt apos.atName
      let (f, first) ← holding [ov] (getMethod ov m pl)
      callWith pos f first (backTo pos (starEach (e :: es) X.env)) (backToKw pos (keywordEach [] X.env))) := by rfl) :
    PEx X (.Call (.Attribute o m apos) (e :: es) [] pos) (fun E => tMeth C m sp [] E ta t) := by
  intro E σ pn' xe' hp pins s H Q I h
  refine PySem.W.methodCall_KW (pl := pl) (thn (ho pn' xe' pins s σ H _ I h) fun u s1 ⟨x, H1, I1, rx, a, dx, fs, ex, ea, l, q⟩ => ?_) ht
  subst ex
  obtain rfl : u = Value.ref a := rx
  refine getmeth_ok (X := { X with pn := pn', xe := xe' }) I1 ea c hm l ?_
  refine PySem.W.callWith_K (first := [.ref a]) (h₀ := X.base) I.ok.mod.kin hm.kp (thn (ha pn' xe' pos pins s1 σ H1 _ I1 q) fun us s2 ⟨vs, H2, I2, r, q2⟩ => ⟨I2.kIn, ?_⟩) hst hpl
  have q3 : sp (.ref a :: (vs ++ [])) H2 Q E := q2
  rw [List.append_nil] at q3
  exact run_at (X := { X with pn := pn', xe := xe' }) (us := .ref a :: us) (vs := .ref a :: vs) D.ok (hr.mono hjk) D.b hp I2 (.cons rfl r) q3
end
/-! ### C.m(self, ..): a base class's method by the class's name -/
structure ClsM (K : PySem.W.Frag) (C : Addr) (m : Str) (f : Addr) : Prop where
  hg : PySem.W.specialIn K (.ref C) "__getattribute__" = some (some (.builtin "type.__getattribute__"))
  rd : PySem.W.readsIn K C (.type "type") = true
  at_ : PySem.W.findCls K (.ref C) (.type "type") m = some (.val (.ref f))
  kp : PySem.W.keepIn K (.ref f) = true
section
variable {X : Cx} {C f : Addr} {fd : FuncData} {ps : List Str} {sp : Sp} {x m : Str} {p apos pos : Pos} {e : Expr} {es : List Expr} {t : TA} {j k : Nat}
theorem pcls {pl : Sem Bool} (hm : X.mg x = some (.ref C)) (M : ClsM X.K C m f) (D : MDef X.prog X.w X.K X.mg X.base ps j sp f fd) (hr : Room k X.A) (ha : PA X (e :: es) t) (hjk : j ≤ k := by decide) (hg : Gl X x := by rfl)
    (hdb : (x == ("__debug__" : Str)) = false := by decide) (hst : starEach (e :: es) X.env = (false, eval e X.env) :: starEach es X.env := by rfl) (hpl : (backTo pos (starEach es X.env)).any (·.1) = false := by rfl)
    (ht : eval (.Call (.Attribute (.Name x p) m apos) (e :: es) [] pos) X.env = (do
      let ov ← eval (.Name x p) X.env
      standAt apos.atName
      let (f, first) ← holding [ov] (getMethod ov m pl)
      callWith pos f first (backTo pos (starEach (e :: es) X.env)) (backToKw pos (keywordEach [] X.env))) := by rfl) :
    PE X (.Call (.Attribute (.Name x p) m apos) (e :: es) [] pos) (tCall sp [] E0 t) := by
  intro pins s σ H Q I h
  refine PySem.W.methodCall_KW (pl := pl) (ld_glob I hg hm ?_ hdb) ht
  refine PySem.W.method_cls I.kIn M.hg (PySem.W.cls_value I.kIn M.rd M.at_ rfl ?_)
  have I1 : Inv X pins σ H { s with toks := s.toks + 1 } := I.tok _
  refine PySem.W.callWith_K (first := []) (h₀ := X.base) I.ok.mod.kin M.kp (thn (ha pos pins _ σ H _ I1 h) fun us s2 ⟨vs, H2, I2, r, q2⟩ => ⟨I2.kIn, ?_⟩) hst hpl
  exact run_fn D.ok (hr.mono hjk) D.b .nil passN I2 r q2
end

section
variable {X : Cx} {C f : Addr} {fd : FuncData} {ps : List Str} {sp : Sp} {x : Str} {p pos : Pos} {j k : Nat}
/-- C(): a new object -/
theorem pmake0 (M : Mk X.K C f) (hm : X.mg x = some (.ref C)) (D : MDef X.prog X.w X.K X.mg X.base ps j sp f fd) (hr : Room k X.A) (hjk : j + 1 ≤ k := by decide) (hg : Gl X x := by rfl) (hdb : (x == ("__debug__" : Str)) = false := by decide) :
    PE X (.Call (.Name x p) [] [] pos) (tMake C sp [] E0 tNil) := pe_make0 M D.ok (hr.mono hjk) hg hm D.b .nil passN hdb
end
end L2
namespace L2
open PySem
/-! ### a def that calls itself: by a number that falls -/
noncomputable def below (N : Nat) (sp : Nat → Sp) : Sp := fun vs H Q E => ∃ m, m < N ∧ sp m vs H Q E
theorem below_ok {P : Program} {w : World} {K : PySem.W.Frag} {mg : Str → Option Value} {base : Heap} {CX : CXT} {L N : Nat} {f : Addr} {fd : FuncData} {ps : List Str} {sp : Nat → Sp} (h : ∀ m, m < N → FnOk P w K mg base CX (L + m + 1) f fd ps (sp m)) :
    FnOk P w K mg base CX (L + N) f fd ps (below N sp) :=
  ⟨fun vs H Q E ⟨m, hm, q⟩ => (h m hm).len vs H Q E q, fun A outer s H args us vs Q E hr he hb hv ⟨m, hm, q⟩ => (h m hm).run A outer s H args us vs Q E (hr.mono (by omega)) he hb hv q⟩
theorem rec_ok {P : Program} {w : World} {K : PySem.W.Frag} {mg : Str → Option Value} {base : Heap} {CX : CXT} {L : Nat} {f : Addr} {fd : FuncData} {ps : List Str} {sp : Nat → Sp}
    (h : ∀ n, (∀ m, m < n → FnOk P w K mg base CX (L + m + 1) f fd ps (sp m)) → FnOk P w K mg base CX (L + n + 1) f fd ps (sp n)) : ∀ n, FnOk P w K mg base CX (L + n + 1) f fd ps (sp n) := fun n =>
  Nat.strongRecOn n fun n ih => h n ih
end L2

set_option Elab.async false
set_option linter.all false
set_option maxRecDepth 100000
set_option maxHeartbeats 4000000
/-! Own rules: == and != of lists and tuples within one another; is True, is False. -/
namespace L2
open PySem PySem.Spec PyProof.Rows
section
variable {X : Cx} {pins : List (Addr × Obj)} {σ : St} {H : Hp} {s : Shared}
end
end L2

set_option Elab.async false
set_option linter.all false
set_option maxRecDepth 100000
set_option maxHeartbeats 4000000
/-! Own rules: list.insert, list.remove, min and max of a list of ints, enumerate. -/
namespace L2
open PySem PySem.Spec PyProof.Rows
section
variable {X : Cx}
end
/-! ### enumerate -/
section
variable {X : Cx} {pins : List (Addr × Obj)} {σ : St} {H : Hp} {s : Shared} {h' : Heap}
end
section
variable {X : Cx}
end
end L2

set_option Elab.async false
set_option linter.all false
set_option maxRecDepth 100000
set_option maxHeartbeats 4000000
/-! Lists and tuples of ints within one another, as they lie in the heap. -/
namespace Ck
open PySem L2
inductive Tree where
  | int (i : Int)
  | lst (l : List Tree)
  | tup (l : List Tree)
mutual
noncomputable def Rep (H : Hp) : Tree → V → Prop
  | .int i, v => v = .int i
  | .lst ts, v => ∃ a xs, v = .ref a ∧ H a = some (.lst xs) ∧ ts.length ≤ 1000000 ∧ RepL H ts xs
  | .tup ts, v => ∃ a xs, v = .ref a ∧ H a = some (.tup xs) ∧ ts.length ≤ 1000000 ∧ RepL H ts xs
noncomputable def RepL (H : Hp) : List Tree → List V → Prop
  | [], xs => xs = []
  | t :: ts, xs => ∃ v vs, xs = v :: vs ∧ Rep H t v ∧ RepL H ts vs
end
mutual
noncomputable def dep : Tree → Nat
  | .int _ => 0
  | .lst ts => depL ts + 1
  | .tup ts => depL ts + 1
noncomputable def depL : List Tree → Nat
  | [] => 0
  | t :: ts => max (dep t) (depL ts)
end
mutual
theorem Rep.same {H H' : Hp} (s : Same H H') : ∀ (t : Tree) {v : V}, Rep H t v → Rep H' t v
  | .int i, v, h => by unfold Rep at h ⊢; exact h
  | .lst ts, v, h => by
    unfold Rep at h ⊢
    obtain ⟨a, xs, e, ha, hl, r⟩ := h
    exact ⟨a, xs, e, s _ _ ha, hl, RepL.same s ts r⟩
  | .tup ts, v, h => by
    unfold Rep at h ⊢
    obtain ⟨a, xs, e, ha, hl, r⟩ := h
    exact ⟨a, xs, e, s _ _ ha, hl, RepL.same s ts r⟩
theorem RepL.same {H H' : Hp} (s : Same H H') : ∀ (ts : List Tree) {xs : List V}, RepL H ts xs → RepL H' ts xs
  | [], xs, h => by unfold RepL at h ⊢; exact h
  | t :: ts, xs, h => by
    unfold RepL at h ⊢
    obtain ⟨v, vs, e, r, rs⟩ := h
    exact ⟨v, vs, e, Rep.same s t r, RepL.same s ts rs⟩
end
/-! ### lists of pairs -/
noncomputable abbrev Pair := Int × Int
/-- pairs that lie as tuples -/
noncomputable def Prs (H : Hp) (xs : List V) (ps : List Pair) : Prop := Paired (fun (v : V) (p : Pair) => ∃ t, v = .ref t ∧ H t = some (.tup [.int p.1, .int p.2])) xs ps
theorem Prs.same {H H' : Hp} {xs : List V} {ps : List Pair} (h : Prs H xs ps) (s : Same H H') : Prs H' xs ps := Paired.mapP h fun v p ⟨t, e, q⟩ => ⟨t, e, s _ _ q⟩
theorem Prs.length {H : Hp} {xs : List V} {ps : List Pair} (h : Prs H xs ps) : xs.length = ps.length := Paired.length h
theorem Prs.get {H : Hp} : ∀ {xs : List V} {ps : List Pair}, Prs H xs ps → ∀ {i : Nat} {x : V}, xs[i]? = some x → ∃ p t, ps[i]? = some p ∧ x = .ref t ∧ H t = some (.tup [.int p.1, .int p.2])
  | _, _, .nil, i, x, e => by cases e
  | _, _, .cons r t, 0, x, e => by
    obtain ⟨a, e1, e2⟩ := r
    rw [List.getElem?_cons_zero] at e
    cases e
    exact ⟨_, a, rfl, e1, e2⟩
  | _, _, .cons r t, i + 1, x, e => by
    obtain ⟨p, a, h1, h2, h3⟩ := Prs.get t (i := i) (by simpa using e)
    exact ⟨p, a, by simpa using h1, h2, h3⟩
theorem Prs.snoc {H : Hp} : ∀ {xs : List V} {ps : List Pair} {t : Addr} {p : Pair}, Prs H xs ps → H t = some (.tup [.int p.1, .int p.2]) → Prs H (xs ++ [.ref t]) (ps ++ [p])
  | _, _, t, p, .nil, h => .cons ⟨t, rfl, h⟩ .nil
  | _, _, t, p, .cons r s, h => .cons r (Prs.snoc s h)
theorem Prs.updL {H : Hp} {xs : List V} {ps : List Pair} {a : Addr} {l : List V} (h : Prs H xs ps) (ha : H a = some (.lst l)) (o : HO) : Prs (upd H a o) xs ps :=
  Paired.mapP h fun v p ⟨t, e, q⟩ => ⟨t, e, (upd_ne (ne_of q ha (by intro z; cases z))).trans q⟩
theorem Prs.updN {H : Hp} {xs : List V} {ps : List Pair} {a : Addr} (h : Prs H xs ps) (ha : H a = none) (o : HO) : Prs (upd H a o) xs ps :=
  Paired.mapP h fun v p ⟨t, e, q⟩ => ⟨t, e, (upd_ne (ne_of_none q ha)).trans q⟩
/-- a list of pairs at a -/
noncomputable def PLs (H : Hp) (a : Addr) (ps : List Pair) : Prop := ∃ xs, H a = some (.lst xs) ∧ Prs H xs ps
theorem PLs.same {H H' : Hp} {a : Addr} {ps : List Pair} (h : PLs H a ps) (s : Same H H') : PLs H' a ps := let ⟨xs, e, r⟩ := h; ⟨xs, s _ _ e, r.same s⟩
theorem PLs.len {H : Hp} {a : Addr} {ps : List Pair} (h : PLs H a ps) : ∃ xs, H a = some (.lst xs) ∧ xs.length = ps.length ∧ Prs H xs ps := let ⟨xs, e, r⟩ := h; ⟨xs, e, r.length, r⟩
end Ck
namespace L2
open PySem
end L2

set_option Elab.async false
set_option linter.all false
set_option maxRecDepth 100000
set_option maxHeartbeats 4000000
/-! Numbers laid on a pile and taken off it; rows of ints as trees. -/
namespace Ck
open PySem L2
end Ck

set_option Elab.async false
set_option linter.all false
set_option maxRecDepth 100000
set_option maxHeartbeats 4000000
/-! Own rules: list.index; a comprehension whose turns write to the heap; slices with two ends. -/
namespace L2
open PySem PySem.Spec PyProof.Rows PySem.SeqAt
section
variable {X : Cx}
theorem pg_tupK {K : PySem.W.Frag} {es : List Expr} {k : Nat} {t : TGs} {n : Nat} {pos : Pos} (hK : X.K = K) (hc : X.calm = true) (h : PGs X es t)
    (hn : (assignEach es X.env).length = n := by rfl) (hst : (assignEach es X.env).findIdx? (·.1) = none := by rfl) : PG X (.Tuple es k pos) (gTup K n t) := by
  subst hK
  exact pg_tup hc h hn hst
/-- over a list that stays; the turns may write to the heap and leave items out -/
theorem comp_walk {K : PySem.W.Frag} {a : Addr} {xs : List V} {g : TG} {tt : TT} {te : TE} {σ0 : St} {H : Hp} {D : Addr} {Q : VK} (Pv : Nat → List V → Hp → Prop) (hz : xs.length ≤ sizeLine)
    (h0 : Pv 0 [] (upd H D (.lst []))) (hl : ∀ i ys H', i ≤ xs.length → Pv i ys H' → SqL K H' a xs ∧ ys.length ≤ i)
    (hs : ∀ (i : Nat) (x : V) (ys : List V) (H' : Hp) (R : VK) (R0 : Hp → Prop), xs[i]? = some x → Pv i ys H' → (∀ v H3, H3 D = some (.lst ys) → Pv (i + 1) (ys ++ [v]) (upd H3 D (.lst (ys ++ [v]))) → R v H3) → (∀ H3, Pv (i + 1) ys H3 → R0 H3) →
      g x σ0 H' fun σ2 H2 => Ext σ0 σ2 ∧ tt σ2 H2 fun b H3 => if b = true then te σ2 H3 R else R0 H3)
    (hq : ∀ ys H', Pv xs.length ys H' → Q (.ref D) H') :
    CompW (Itl K a) g tt te σ0 D Q H := by
  refine ⟨fun i m ys H' => m = xs.length - i ∧ i ≤ xs.length ∧ Pv i ys H', ⟨xs.length, by simp, Nat.zero_le _, h0⟩, ?_⟩
  rintro i m ys H' ⟨rfl, hi, p⟩
  obtain ⟨sq, ly⟩ := hl i ys H' hi p
  by_cases hlt : i < xs.length
  · refine .inr ⟨⟨xs, xs[i], sq, by simp [hlt]⟩, fun x H'' y => ?_⟩
    obtain ⟨e, y⟩ := y
    subst e
    have ex := y xs sq
    refine hs i x ys _ _ _ ex p (fun v H3 hD p' => ⟨hD, by omega, xs.length - (i + 1), by omega, rfl, hlt, p'⟩) fun H3 p' => ⟨xs.length - (i + 1), by omega, rfl, hlt, p'⟩
  · have e : i = xs.length := by omega
    subst e
    exact .inl ⟨⟨xs, sq, Nat.le_refl _⟩, hq ys H' p⟩
end
end L2
namespace Ck
open PySem L2
end Ck
namespace Ck
open PySem L2
/-- the fields of a family -/
structure Flds (fs : List (Str × V)) (w : Str) (l : Int) : Prop where
  word : fs.lookup ("word" : Str) = some (.str w)
  least : fs.lookup ("least" : Str) = some (.int l)
  no : ∀ m : Str, m ≠ ("word" : Str) → m ≠ ("least" : Str) → fs.lookup m = none
theorem flds_mk (w : Str) (l : Int) : Flds (putF ("least" : Str) (.int l) (putF ("word" : Str) (.str w) [])) w l :=
  ⟨by rw [lookup_putF, if_neg (by decide), lookup_putF, if_pos rfl], by rw [lookup_putF, if_pos rfl], fun m a b => by rw [lookup_putF, if_neg b, lookup_putF, if_neg a]; rfl⟩
/-! ### pairs raised -/
noncomputable def up (d : Int) (p : Pair) : Pair := (p.1 + d, p.2 + d)
noncomputable def joinB (ps qs : List Pair) : List Pair := (0, 2 * (ps.length : Int) + 1) :: (ps.map (up 1) ++ qs.map (up (2 * (ps.length : Int) + 2)))
theorem Prs.app {H : Hp} : ∀ {xs ys : List V} {ps qs : List Pair}, Prs H xs ps → Prs H ys qs → Prs H (xs ++ ys) (ps ++ qs)
  | _, _, _, _, .nil, h => h
  | _, _, _, _, .cons r t, h => .cons r (Prs.app t h)
end Ck
namespace Ck
open PySem L2
end Ck
namespace Ck
open PySem L2
end Ck

set_option Elab.async false
set_option linter.all false
set_option maxRecDepth 100000
set_option maxHeartbeats 4000000
/-! Stairs: rows that never fall and stay within their places. -/
namespace Ck
open PySem L2
inductive St : List Int → Int → Prop
  | nil : St [] 0
  | snoc {rs : List Int} {a n : Int} : St rs a → a ≤ n → n ≤ (rs.length : Int) → St (rs ++ [n]) n
end Ck

set_option Elab.async false
set_option linter.all false
set_option maxRecDepth 100000
set_option maxHeartbeats 4000000
/-! Texts that close: their two parts. -/
namespace Ck
open PySem L2
end Ck
namespace Ck
open PySem L2
end Ck

set_option Elab.async false
set_option linter.all false
set_option maxRecDepth 100000
set_option maxHeartbeats 4000000
/-! Own rules: sorted of ints (fewer than 64), in and not in, all of truths, a comprehension over enumerate. -/
namespace L2
open PySem PySem.Spec PyProof.Rows
theorem bb_sorted : bootBuiltins "sorted" = some (.builtin "sorted") := by decide +kernel
section
variable {X : Cx}
end
end L2
namespace Ck
open PySem L2
end Ck

set_option Elab.async false
set_option linter.all false
set_option maxRecDepth 100000
set_option maxHeartbeats 4000000
/-! Rows of cars: counted, sorted, parked. -/
namespace Ck
open PySem L2
end Ck

set_option Elab.async false
set_option linter.all false
set_option maxRecDepth 100000
set_option maxHeartbeats 4000000
/-! Turned round a ring, just one row of wishes is a row of cars. -/
namespace Ck
open PySem L2
end Ck
namespace Ck
open PySem L2
/-- the steps of a row of wishes -/
noncomputable def steps (ws : List Int) : List Int := (List.range (ws.length - 1)).map fun (i : Nat) => (ws.getD (i + 1) 0 - ws.getD i 0) % ((ws.length : Int) + 1)
end Ck

set_option Elab.async false
set_option linter.all false
set_option maxRecDepth 100000
set_option maxHeartbeats 4000000
/-! For laws that look at things: the one refusal NoThing; small facts. -/
namespace L2
open PySem PySem.W
end L2
namespace Ck
open PySem L2
theorem ne_int {a b : Int} (h : a ≠ b) : ¬ V.int a = V.int b := fun z => h (by injection z)
end Ck
namespace Ck
end Ck

set_option Elab.async false
set_option linter.all false
set_option maxRecDepth 100000
set_option maxHeartbeats 4000000
/-! Trees told by elders. -/
namespace Ck
open PySem L2
end Ck
namespace Ck
open PySem L2
theorem dec_int (a b : Int) : decide (V.int a = V.int b) = decide (a = b) := by
  by_cases h : a = b
  · rw [decide_eq_true h, decide_eq_true (by rw [h])]
  · rw [decide_eq_false h, decide_eq_false (ne_int h)]
end Ck
namespace Ck
end Ck
namespace Ck
open PySem L2
end Ck

set_option Elab.async false
set_option linter.all false
set_option maxRecDepth 100000
set_option maxHeartbeats 4000000
/-! Own rules: list(range(..)). -/
namespace L2
open PySem PySem.Spec PyProof.Rows
section
variable {X : Cx}
end
end L2
namespace L2
open PySem PySem.Spec PyProof.Rows
end L2
namespace L2
open PySem PySem.Spec PyProof.Rows
theorem call_len_seqK {X : Cx} {K : PySem.W.Frag} (hK : X.K = K) : CallR X (.builtin "len") (fun xs H Q => ∃ a ys, xs = [.ref a] ∧ (SqL K H a ys ∨ SqT K H a ys) ∧ Q (.int ys.length) H) := by
  subst hK
  exact call_len_seq
end L2

set_option Elab.async false
set_option linter.all false
set_option maxRecDepth 100000
set_option maxHeartbeats 4000000
/-! Rows that come off a pile. -/
namespace Ck
open PySem L2
noncomputable def rgI (n : Nat) : List Int := (List.range n).map fun (k : Nat) => (k : Int)
noncomputable def stk (row : List Int) (k p : Nat) : List Int := (rgI p).filter fun m => !decide (m ∈ row.take k)
end Ck
namespace Ck
open PySem L2
end Ck

set_option Elab.async false
set_option linter.all false
set_option maxRecDepth 100000
set_option maxHeartbeats 4000000
/-! A tree's code, and a code's tree. -/
namespace Ck
open PySem L2
/-- all knots -/
noncomputable def knots (n : Nat) : List Int := (List.range n).map fun (k : Nat) => 1 + (k : Int)
end Ck
namespace Ck
end Ck
namespace Ck
end Ck

set_option Elab.async false
set_option linter.all false
set_option maxRecDepth 100000
set_option maxHeartbeats 4000000
/-! Own rules: list.remove; rules within comprehensions; a slice up to the last one. -/
namespace L2
open PySem PySem.Spec PyProof.Rows PySem.SeqAt
section
variable {X : Cx}
end
end L2
namespace Ck
open PySem L2
end Ck
namespace L2
open PySem
end L2
namespace Ck
open PySem L2
end Ck

set_option Elab.async false
set_option linter.all false
set_option maxRecDepth 100000
set_option maxHeartbeats 4000000
/-! Figures of a number, rings' things and their codes; objects of one of several classes. -/
namespace L2
open PySem PySem.Spec PyProof.Rows
section
variable {X : Cx}
/-- one of two readings -/
noncomputable def tEit (t1 t2 : TE) : TE := fun σ H Q => t1 σ H Q ∨ t2 σ H Q
theorem pe_eit {e : Expr} {t1 t2 : TE} (h1 : PE X e t1) (h2 : PE X e t2) : PE X e (tEit t1 t2) := fun pins s σ H Q I h => h.elim (h1 pins s σ H Q I) (h2 pins s σ H Q I)
end
/-- what isinstance asks of an own class -/
structure InsT (K : PySem.W.Frag) (C : Addr) : Prop where
  cl : Cls K C
  ha : PySem.W.findIn K (.ref C) "__class__" = some (some (.builtin "object.__class__"))
  hn : PySem.W.specialIn K (.builtin "object.__class__") "__get__" = some (some (.builtin "getset_descriptor.__get__"))
  htk : PySem.W.takesIn K (.builtin "object.__class__") = some true
  hm : PySem.W.mroIn K C (.type "object") = some true
theorem InsT.ty {K : PySem.W.Frag} {C a dx : Addr} {fs : List (Str × V)} {H : Hp} (h : InsT K C) (e : H a = some (.ins C dx fs)) : TyOf K H (.ref a) (.ref C) := .ins e h.cl h.ha h.hn h.htk h.hm
end L2
namespace Ck
open PySem L2
end Ck
namespace L2
open PySem PySem.Spec PyProof.Rows PyProof
theorem divB {i j : Int} (h0 : 0 < j) (h : j.natAbs < 2 ^ 1000) : CDivL i j := ⟨h0, by
  have hz : j.natAbs ≠ 0 := by omega
  have := (Nat.log2_lt hz).mpr h
  omega⟩
end L2

set_option Elab.async false
set_option linter.all false
set_option maxRecDepth 100000
set_option maxHeartbeats 4000000
/-! A call of what a list holds; a tried call of one of several methods. -/
namespace L2
open PySem PySem.Spec PyProof.Rows
section
variable {X : Cx} {f : Addr} {fd : FuncData} {ps : List Str} {sp : Sp} {x : Str} {p pos : Pos} {a b e : Expr} {es : List Expr} {tc : TE} {t : TA} {j k : Nat}
theorem px_eit {e : Expr} {t1 t2 : XK → TE} (h1 : PEx X e t1) (h2 : PEx X e t2) : PEx X e (fun E => tEit (t1 E) (t2 E)) :=
  fun E σ pn' xe' hp pins s H Q I h => h.elim (h1 E σ pn' xe' hp pins s H Q I) (h2 E σ pn' xe' hp pins s H Q I)
end
end L2

set_option Elab.async false
set_option linter.all false
set_option maxRecDepth 100000
set_option maxHeartbeats 4000000
/-! Rows that are no code, no tree, no cars. -/
namespace Ck
open PySem L2
end Ck

set_option Elab.async false
set_option linter.all false
set_option maxRecDepth 100000
set_option maxHeartbeats 4000000
/-! A tree of questions that sorts: answered by an order, what it tells rises. -/
namespace L2
open PySem PySem.Spec PyProof.Rows PySem.W
/-- every question is about numbers below n, and is answered by lt -/
noncomputable def pw {α : Type} (n : Nat) (lt : Nat → Nat → Bool) : KasT α → (α → Prop) → Prop
  | .ret a, Q => Q a
  | .ask i j k, Q => i < n ∧ j < n ∧ pw n lt (k (lt i j)) Q
theorem pw_bind {α β : Type} {n : Nat} {lt : Nat → Nat → Bool} {f : α → KasT β} {Q : β → Prop} : ∀ {t : KasT α}, pw n lt t (fun a => pw n lt (f a) Q) → pw n lt (t.bind f) Q
  | .ret _, h => h
  | .ask _ _ _, h => ⟨h.1, h.2.1, pw_bind h.2.2⟩
theorem pw_mono {α : Type} {n : Nat} {lt : Nat → Nat → Bool} {Q Q' : α → Prop} (m : ∀ a, Q a → Q' a) : ∀ {t : KasT α}, pw n lt t Q → pw n lt t Q'
  | .ret a, h => m a h
  | .ask _ _ _, h => ⟨h.1, h.2.1, pw_mono m h.2.2⟩
theorem pw_wp {α : Type} {n : Nat} {lt : Nat → Nat → Bool} {Q : α → Prop} {s : Shared} {cmp : Nat → Nat → (Bool → Shared → Prop) → Shared → Prop}
    (hc : ∀ (i j : Nat) (C : Bool → Shared → Prop), i < n → j < n → C (lt i j) s → cmp i j C s) : ∀ {t : KasT α}, pw n lt t Q → t.kasWp cmp (fun a s' => s' = s ∧ Q a) s
  | .ret _, h => ⟨rfl, h⟩
  | .ask i j k, h => hc i j (fun b s' => (k b).kasWp cmp (fun a s' => s' = s ∧ Q a) s') h.1 h.2.1 (pw_wp hc h.2.2)
/-- an order by what is not less -/
structure Ordr (lt : Nat → Nat → Bool) : Prop where
  asym : ∀ a b, lt a b = true → lt b a = false
  ntr : ∀ a b c, lt b a = false → lt c b = false → lt c a = false
/-- the number at a place -/
noncomputable abbrev gA (p : Array Nat) (k : Nat) : Nat := p.getD k 0
noncomputable def OkP (n : Nat) (p : Array Nat) : Prop := p.toList.Perm (List.range n)
theorem OkP.size {n : Nat} {p : Array Nat} (h : OkP n p) : p.size = n := by
  have := h.length_eq
  rw [List.length_range] at this
  simpa using this
theorem OkP.lt {n : Nat} {p : Array Nat} (h : OkP n p) (hn : 0 < n) (k : Nat) : gA p k < n := by
  unfold gA
  by_cases hk : k < p.size
  · have e : p.getD k 0 = p[k] := by simp [hk]
    rw [e]
    exact List.mem_range.mp (h.mem_iff.mp (Array.getElem_mem_toList hk))
  · have e : p.getD k 0 = 0 := by simp [hk]
    rw [e]; exact hn
theorem gA_mir {p : Array Nat} {i j : Nat} (hj : j ≤ p.size) (k : Nat) : gA (kas_rev p i j) k = if i ≤ k ∧ k < j then gA p (i + j - 1 - k) else gA p k := by
  unfold gA kas_rev
  rw [Array.getD_eq_getD_getElem?, getElem?_mirror_all hj k]
  split
  · rw [← Array.getD_eq_getD_getElem?]
  · rw [← Array.getD_eq_getD_getElem?]
theorem gA_bub {p : Array Nat} {src d : Nat} (hs : src < p.size) (hd : d ≤ src) (k : Nat) : gA (bubble p src d) k = if k = src - d then gA p src else if src - d < k ∧ k ≤ src then gA p (k - 1) else gA p k := by
  unfold gA
  rw [Array.getD_eq_getD_getElem?, getElem?_bubble hs d hd k]
  split
  · simp [hs]
  · split
    · rw [← Array.getD_eq_getD_getElem?]
    · rw [← Array.getD_eq_getD_getElem?]
theorem OkP.rev {n : Nat} {p : Array Nat} (h : OkP n p) (i j : Nat) : OkP n (kas_rev p i j) := (Array.perm_iff_toList_perm.mp (mirror_perm p i j _)).trans h
theorem OkP.bub {n : Nat} {p : Array Nat} (h : OkP n p) (i j : Nat) : OkP n (bubble p i j) := (Array.perm_iff_toList_perm.mp (bubble_perm p i j)).trans h
section
variable {n : Nat} {lt : Nat → Nat → Bool} (O : Ordr lt)
/-- rising, falling, alike -/
noncomputable def Ris (lt : Nat → Nat → Bool) (p : Array Nat) (k : Nat) : Prop := ∀ i j, i ≤ j → j < k → lt (gA p j) (gA p i) = false
noncomputable def Fal (lt : Nat → Nat → Bool) (p : Array Nat) (k : Nat) : Prop := ∀ i j, i ≤ j → j < k → lt (gA p i) (gA p j) = false
noncomputable def Alk (lt : Nat → Nat → Bool) (a b : Nat) : Prop := lt a b = false ∧ lt b a = false
include O
theorem Ordr.irr (a : Nat) : lt a a = false := by
  cases h : lt a a with
  | false => rfl
  | true => exact h.symm.trans (O.asym a a h)
theorem Ordr.alk (a : Nat) : Alk lt a a := ⟨O.irr a, O.irr a⟩
theorem Ordr.alkT {a b c : Nat} (x : Alk lt a b) (y : Alk lt b c) : Alk lt a c := ⟨O.ntr c b a y.1 x.1, O.ntr a b c x.2 y.2⟩
theorem Ordr.up {a b c : Nat} (x : lt a b = true) (y : lt c b = false) : lt a c = true := by
  cases h : lt a c with
  | true => rfl
  | false => exact (x.symm.trans (O.ntr b c a y h)).symm ▸ rfl
theorem Ris.one (p : Array Nat) : Ris lt p 1 := fun i j h1 h2 => by
  have e : i = j := by omega
  subst e
  exact O.irr _
theorem Fal.one (p : Array Nat) : Fal lt p 1 := fun i j h1 h2 => by
  have e : i = j := by omega
  subst e
  exact O.irr _
theorem Ris.snoc {p : Array Nat} {m : Nat} (h1 : 1 ≤ m) (h : Ris lt p m) (c : lt (gA p m) (gA p (m - 1)) = false) : Ris lt p (m + 1) := fun i j ij jm => by
  by_cases hj : j < m
  · exact h i j ij hj
  · have e : j = m := by omega
    subst e
    by_cases hi : i = j
    · subst hi; exact O.irr _
    · exact O.ntr _ _ _ (h i (j - 1) (by omega) (by omega)) c
theorem Fal.snoc {p : Array Nat} {m : Nat} (h1 : 1 ≤ m) (h : Fal lt p m) (c : lt (gA p (m - 1)) (gA p m) = false) : Fal lt p (m + 1) := fun i j ij jm => by
  by_cases hj : j < m
  · exact h i j ij hj
  · have e : j = m := by omega
    subst e
    by_cases hi : i = j
    · subst hi; exact O.irr _
    · exact O.ntr _ _ _ c (h i (j - 1) (by omega) (by omega))
theorem Fal.alk {p p' : Array Nat} {m : Nat} (h : Fal lt p m) (e : ∀ k, k < m → Alk lt (gA p' k) (gA p k)) : Fal lt p' m := fun i j ij jm =>
  O.ntr _ _ _ (e j jm).2 (O.ntr _ _ _ (h i j ij jm) (e i (by omega)).1)
theorem pw_asc {p : Array Nat} (hp : OkP n p) {N : Nat} (hN : N ≤ n) : ∀ (f m : Nat), 1 ≤ m → m + f = N → Ris lt p m → pw n lt (kas_asc p f m) (fun r => m ≤ r ∧ r ≤ N ∧ Ris lt p r ∧ (r < N → lt (gA p r) (gA p (r - 1)) = true))
  | 0, m, h1, h2, h => ⟨Nat.le_refl _, by omega, h, fun z => absurd z (by omega)⟩
  | f + 1, m, h1, h2, h => by
    refine ⟨hp.lt (by omega) _, hp.lt (by omega) _, ?_⟩
    show pw n lt (if lt (gA p m) (gA p (m - 1)) = true then _ else _) _
    cases c : lt (gA p m) (gA p (m - 1)) with
    | true =>
      rw [if_pos rfl]
      exact ⟨Nat.le_refl _, by omega, h, fun _ => c⟩
    | false =>
      rw [if_neg (by decide)]
      exact pw_mono (fun r hr => ⟨by omega, hr.2⟩) (pw_asc hp hN f (m + 1) (by omega) (by omega) (h.snoc O h1 c))
theorem pw_desc {N : Nat} (hN : N ≤ n) : ∀ (f : Nat) (p : Array Nat) (m q : Nat), OkP n p → q + 1 ≤ m → m + f = N → Fal lt p m → (∀ i, m - 1 - q ≤ i → i < m → Alk lt (gA p i) (gA p (m - 1))) →
    pw n lt (kas_desc f p m q) (fun r => OkP n r.1 ∧ r.2.2 + 1 ≤ r.2.1 ∧ r.2.1 ≤ N ∧ Fal lt r.1 r.2.1 ∧ ∀ i, r.2.1 - 1 - r.2.2 ≤ i → i < r.2.1 → Alk lt (gA r.1 i) (gA r.1 (r.2.1 - 1)))
  | 0, p, m, q, hp, hq, h2, h, al => ⟨hp, hq, by show m ≤ N; omega, h, al⟩
  | f + 1, p, m, q, hp, hq, h2, h, al => by
    have hs := hp.size
    refine ⟨hp.lt (by omega) _, hp.lt (by omega) _, ?_⟩
    show pw n lt (if lt (gA p m) (gA p (m - 1)) = true then _ else _) _
    cases c : lt (gA p m) (gA p (m - 1)) with
    | true =>
      rw [if_pos rfl]
      by_cases q0 : q > 0
      · rw [if_pos q0]
        have e : ∀ k, gA (kas_rev p (m - (q + 1)) m) k = if m - (q + 1) ≤ k ∧ k < m then gA p (m - (q + 1) + m - 1 - k) else gA p k := fun k => gA_mir (by omega) k
        have ek : ∀ k, k < m → Alk lt (gA (kas_rev p (m - (q + 1)) m) k) (gA p k) := fun k hk => by
          rw [e k]
          split
          · have z1 := al (m - (q + 1) + m - 1 - k) (by omega) (by omega)
            have z2 := al k (by omega) hk
            exact O.alkT z1 ⟨z2.2, z2.1⟩
          · exact O.alk _
        have em : gA (kas_rev p (m - (q + 1)) m) m = gA p m := by rw [e m, if_neg (by omega)]
        refine pw_desc hN f _ (m + 1) 0 (hp.rev _ _) (by omega) (by omega) ((h.alk O ek).snoc O (by omega) ?_) (fun i i1 i2 => ?_)
        · rw [em]
          have := (ek (m - 1) (by omega)).1
          exact O.ntr _ _ _ (O.asym _ _ c) this
        · have : i = m := by omega
          subst this
          exact O.alk _
      · rw [if_neg q0]
        refine pw_desc hN f p (m + 1) 0 hp (by omega) (by omega) (h.snoc O (by omega) (O.asym _ _ c)) (fun i i1 i2 => ?_)
        have : i = m := by omega
        subst this
        exact O.alk _
    | false =>
      rw [if_neg (by decide)]
      refine ⟨hp.lt (by omega) _, hp.lt (by omega) _, ?_⟩
      show pw n lt (if lt (gA p (m - 1)) (gA p m) = true then _ else _) _
      cases d : lt (gA p (m - 1)) (gA p m) with
      | true =>
        rw [if_pos rfl]
        exact ⟨hp, hq, by show m ≤ N; omega, h, al⟩
      | false =>
        rw [if_neg (by decide)]
        refine pw_desc hN f p (m + 1) (q + 1) hp (by omega) (by omega) (h.snoc O (by omega) d) (fun i i1 i2 => ?_)
        by_cases hi : i < m
        · exact O.alkT (al i (by omega) hi) ⟨d, c⟩
        · have : i = m := by omega
          subst this
          exact O.alk _
/-- what the count of a run tells -/
noncomputable def Cnt (n : Nat) (lt : Nat → Nat → Bool) (N : Nat) (r : Nat × Array Nat) : Prop := OkP n r.2 ∧ Ris lt r.2 r.1 ∧ 1 ≤ r.1 ∧ r.1 ≤ N
theorem pw_tail3 {N : Nat} (hN : N ≤ n) {p : Array Nat} {m : Nat} (hp : OkP n p) (h1 : 1 ≤ m) (hm : m ≤ N) (h : Fal lt p m) : pw n lt (kas_tail3 m N p) (Cnt n lt N) := by
  have hs := hp.size
  have e : ∀ k, k < m → gA (kas_rev p 0 m) k = gA p (m - 1 - k) := fun k hk => by
    rw [gA_mir (by omega), if_pos (by omega), Nat.zero_add]
  refine pw_bind (pw_mono (fun r hr => ?_) (pw_asc O (hp.rev 0 m) hN (N - m) m h1 (by omega) (fun i j ij jm => ?_)))
  · exact ⟨hp.rev 0 m, hr.2.2.1, by show 1 ≤ r; omega, hr.2.1⟩
  · rw [e i (by omega), e j jm]
    exact h _ _ (by omega) (by omega)
theorem pw_descPart {N : Nat} (hN : N ≤ n) {p : Array Nat} {m : Nat} (hp : OkP n p) (h1 : 1 ≤ m) (hm : m + 1 ≤ N) (h : Fal lt p m) (c : lt (gA p m) (gA p (m - 1)) = true) : pw n lt (kas_descPart m N p) (Cnt n lt N) := by
  refine pw_bind (pw_mono (fun r hr => ?_) (pw_desc O hN (N - (m + 1)) p (m + 1) 0 hp (by omega) (by omega) (h.snoc O h1 (O.asym _ _ c)) (fun i i1 i2 => ?_)))
  · obtain ⟨p', m', q'⟩ := r
    obtain ⟨ok, hq, hl, fa, al⟩ := hr
    have hs := ok.size
    dsimp only at hs hq hl fa al ⊢
    by_cases q0 : q' > 0
    · rw [if_pos q0]
      refine pw_tail3 O hN (ok.rev _ _) (by omega) hl (fa.alk O fun k hk => ?_)
      rw [gA_mir (by omega)]
      split
      · have z1 := al (m' - (q' + 1) + m' - 1 - k) (by omega) (by omega)
        have z2 := al k (by omega) hk
        exact O.alkT z1 ⟨z2.2, z2.1⟩
      · exact O.alk _
    · rw [if_neg q0]
      exact pw_tail3 O hN ok (by omega) hl fa
  · have : i = m := by omega
    subst this
    exact O.alk _
theorem pw_count {N : Nat} (hN : N ≤ n) (hN1 : 1 ≤ N) {p : Array Nat} (hp : OkP n p) : pw n lt (kas_count N p) (Cnt n lt N) := by
  have hs := hp.size
  refine pw_bind (pw_mono (fun m hm => ?_) (pw_asc O hp hN (N - 1) 1 (Nat.le_refl _) (by omega) (Ris.one O p)))
  obtain ⟨m1, mN, ri, st⟩ := hm
  by_cases e : m = N
  · subst e
    rw [if_pos (by simp)]
    exact ⟨hp, ri, m1, Nat.le_refl _⟩
  · rw [if_neg (by simpa using e)]
    have c := st (by omega)
    by_cases m2 : m > 1
    · rw [if_pos m2]
      refine ⟨hp.lt (by omega) _, hp.lt (by omega) _, ?_⟩
      show pw n lt (if lt (gA p 0) (gA p (m - 1)) = true then _ else _) _
      cases d : lt (gA p 0) (gA p (m - 1)) with
      | true =>
        rw [if_pos rfl]
        exact ⟨hp, ri, m1, mN⟩
      | false =>
        rw [if_neg (by decide)]
        have al : ∀ i, i < m → Alk lt (gA p i) (gA p 0) := fun i hi => ⟨ri 0 i (by omega) hi, O.ntr _ _ _ (ri i (m - 1) (by omega) (by omega)) d⟩
        have e : ∀ k, k < m → gA (kas_rev p 0 m) k = gA p (m - 1 - k) := fun k hk => by
          rw [gA_mir (by omega), if_pos (by omega), Nat.zero_add]
        refine pw_descPart O hN (hp.rev _ _) m1 (by omega) (fun i j ij jm => ?_) ?_
        · rw [e i (by omega), e j jm]
          have z1 := al (m - 1 - i) (by omega)
          have z2 := al (m - 1 - j) (by omega)
          exact (O.alkT z1 ⟨z2.2, z2.1⟩).1
        · rw [gA_mir (by omega), if_neg (by omega), e (m - 1) (by omega), show m - 1 - (m - 1) = 0 by omega]
          exact O.up c d
    · rw [if_neg m2]
      have em : m = 1 := by omega
      subst em
      exact pw_descPart O hN hp (Nat.le_refl _) (by omega) (Fal.one O p) c
theorem pw_place {p : Array Nat} (hp : OkP n p) {k : Nat} (hk : k < n) (h : Ris lt p k) : ∀ (f l r : Nat), l ≤ r → r ≤ k → r - l ≤ f → (∀ i, i < l → lt (gA p k) (gA p i) = false) → (∀ i, r ≤ i → i < k → lt (gA p k) (gA p i) = true) →
    pw n lt (kas_place p k f l r) (fun l' => l' ≤ k ∧ (∀ i, i < l' → lt (gA p k) (gA p i) = false) ∧ ∀ i, l' ≤ i → i < k → lt (gA p k) (gA p i) = true)
  | 0, l, r, h1, h2, h3, a, b => ⟨by omega, a, fun i i1 i2 => b i (by omega) i2⟩
  | f + 1, l, r, h1, h2, h3, a, b => by
    show pw n lt (if l ≥ r then _ else _) _
    by_cases e : l ≥ r
    · rw [if_pos e]
      exact ⟨by omega, a, fun i i1 i2 => b i (by omega) i2⟩
    · rw [if_neg e]
      refine ⟨hp.lt (by omega) _, hp.lt (by omega) _, ?_⟩
      show pw n lt (if lt (gA p k) (gA p ((l + r) / 2)) = true then _ else _) _
      cases c : lt (gA p k) (gA p ((l + r) / 2)) with
      | true =>
        rw [if_pos rfl]
        exact pw_place hp hk h f l ((l + r) / 2) (by omega) (by omega) (by omega) a fun i i1 i2 => O.up c (h _ i i1 i2)
      | false =>
        rw [if_neg (by decide)]
        exact pw_place hp hk h f ((l + r) / 2 + 1) r (by omega) h2 (by omega) (fun i hi => O.ntr _ _ _ (h i ((l + r) / 2) (by omega) (by omega)) c) b
theorem pw_bin : ∀ (f : Nat) (p : Array Nat) (k : Nat), OkP n p → k + f = n → Ris lt p k → pw n lt (kas_bin f p k) (fun p' => OkP n p' ∧ Ris lt p' n)
  | 0, p, k, hp, hk, h => by
    have : k = n := by omega
    subst this
    exact ⟨hp, h⟩
  | f + 1, p, k, hp, hk, h => by
    have hs := hp.size
    refine pw_bind (pw_mono (fun l hl => ?_) (pw_place O hp (by omega) h k 0 k (by omega) (Nat.le_refl _) (by omega) (fun i hi => absurd hi (by omega)) (fun i i1 i2 => absurd i1 (by omega))))
    obtain ⟨lk, lo, hi⟩ := hl
    refine pw_bin f _ (k + 1) (hp.bub _ _) (by omega) (fun i j ij jk => ?_)
    have e := fun x => gA_bub (p := p) (src := k) (d := k - l) (by omega) (by omega) x
    rw [e i, e j, show k - (k - l) = l by omega]
    by_cases j1 : j = l
    · subst j1
      rw [if_pos rfl]
      by_cases i1 : i = j
      · rw [if_pos i1]; exact O.irr _
      · rw [if_neg i1, if_neg (by omega)]
        exact lo i (by omega)
    · rw [if_neg j1]
      by_cases j2 : l < j ∧ j ≤ k
      · rw [if_pos j2]
        by_cases i1 : i = l
        · rw [if_pos i1]
          exact O.asym _ _ (hi (j - 1) (by omega) (by omega))
        · rw [if_neg i1]
          by_cases i2 : l < i ∧ i ≤ k
          · rw [if_pos i2]
            exact h _ _ (by omega) (by omega)
          · rw [if_neg i2]
            exact h _ _ (by omega) (by omega)
      · rw [if_neg j2, if_neg (by omega), if_neg (by omega)]
        exact h _ _ ij (by omega)
theorem pw_sort (h2 : 1 ≤ n) : pw n lt (kas_sort n) (fun p => OkP n p ∧ Ris lt p n) := by
  refine pw_bind (pw_mono (fun r hr => ?_) (pw_count O (Nat.le_refl n) h2 (p := List.toArray (List.range n)) (by unfold OkP; simp)))
  obtain ⟨m, p⟩ := r
  obtain ⟨ok, ri, m1, mn⟩ := hr
  dsimp only at ok ri m1 mn ⊢
  by_cases e : m < n
  · rw [if_pos e, Nat.max_eq_left m1]
    exact pw_bin O (n - m) p m ok (by omega) ri
  · rw [if_neg e]
    have : m = n := by omega
    subst this
    exact ⟨ok, ri⟩
end
end L2

set_option Elab.async false
set_option linter.all false
set_option maxRecDepth 100000
set_option maxHeartbeats 4000000
/-! sorted of what is compared without a write: of pairs of numbers. -/
namespace L2
open PySem PySem.Spec PyProof.Rows PySem.W Ck
section
variable {prog : Program} {w : World} {A : Around} {E : Value → Shared → Prop} {s : Shared}
/-- in this heap the sort asks, and is answered by lt -/
noncomputable def Asks (prog : Program) (w : World) (A : Around) (vs : List Value) (lt : Nat → Nat → Bool) (s1 : Shared) : Prop :=
  ∀ (Q : SortKind → Shared → Prop), (∀ κ, (∀ (i j : Nat) (C : Bool → Shared → Prop), i < vs.length → j < vs.length → C (lt i j) s1 → kas_ask prog w A κ vs i j C s1) → Q κ s1) → wpAny (model prog w) A (keyKind' vs.toArray) Q (fun _ _ => False) s1
noncomputable def outOf (vs : List Value) (p : Array Nat) : List Value := p.toList.map fun i => vs.getD i Value.none
theorem out_range (vs : List Value) : outOf vs (List.toArray (List.range vs.length)) = vs := by
  unfold outOf
  refine List.ext_getElem (by simp) fun i h1 h2 => ?_
  simp [h2]
theorem zip_snd (vs : List Value) : (vs.toArray.zip vs.toArray).map (·.2) = vs.toArray := by
  refine Array.ext (by simp) fun i h1 h2 => ?_
  simp
theorem sort_ask {a : Addr} {vs : List Value} {n : Nat} {P : PySem.Fin → Shared → Prop} {lt : Nat → Nat → Bool} (O : Ordr lt) (ho : s.heap.get? a = some (seqObj "list" vs.toArray n)) (h64 : vs.length < 64)
    (hk : ∀ h6 : Heap, (∀ b o, b ≠ a → s.heap.get? b = some o → h6.get? b = some o) → 2 ≤ vs.length → Asks prog w A vs lt { s with heap := h6 })
    (fin : ∀ p : Array Nat, OkP vs.length p → Ris lt p vs.length → P (.done (.ret .none)) { s with heap := sortedHeap s.heap a vs (outOf vs p).toArray }) : wpAny (model prog w) A (Builtin.«list.sort» ⟨[.ref a], []⟩) P E s := by
  have ha : a < s.heap.objs.size := Heap.lt_size ho
  have hz : vs.length ≤ sizeLine := by rw [sizeLine_eq]; omega
  obtain ⟨e1, ho1⟩ : ∃ e, (s.heap.update a (Obj.mapSeq fun _ => (#[] : Array Value))).get? a = some (seqObj "list" #[] e) := ⟨_, get?_update_seq ho _⟩
  have keep : ∀ b o, (s.heap.update a (Obj.mapSeq fun _ => (#[] : Array Value))).get? b = some o → (((s.heap.update a (Obj.mapSeq fun _ => (#[] : Array Value))).push (seqObj "tuple" vs.toArray 0)).push (seqObj "list" #[] 0)).get? b = some o := fun b o e => Heap.get?_push_of_some _ (Heap.get?_push_of_some _ e)
  have old : ∀ b o, b ≠ a → s.heap.get? b = some o → (((s.heap.update a (Obj.mapSeq fun _ => (#[] : Array Value))).push (seqObj "tuple" vs.toArray 0)).push (seqObj "list" #[] 0)).get? b = some o := fun b o hb e => keep b o (by rw [Heap.get?_update_ne _ _ _ _ hb]; exact e)
  have ho6 := keep _ _ ho1
  rw [list_sort_plain]
  refine wpAny_bind (listItems_at ho rfl (wpAny_bind (listUpdate_at ho rfl (wpAny_bind (seqEpoch_at ho1 rfl (wpAny_bind (wpAny_newTuple (wpAny_bind (wpAny_newList (wpAny_holding ?_) (Nat.zero_le _))) hz)))) (by rw [List.size_toArray]; exact hz) (Nat.zero_le _))))
  show wpAny (model prog w) A _ P E { s with heap := ((s.heap.update a (Obj.mapSeq fun _ => (#[] : Array Value))).push (seqObj "tuple" vs.toArray 0)).push (seqObj "list" #[] 0) }
  dsimp only
  by_cases h2 : vs.toArray.size < 2
  · rw [if_pos h2, if_pos h2]
    refine wpAny_bind (wpAny_pure ?_)
    rw [StateT.run_pure]
    refine wpAny_bind (wpAny_pure ?_)
    dsimp only
    have ez : (arrOf (SortSt.mk' general' (vs.toArray.zip vs.toArray) #[] 7 none)).map (·.2) = vs.toArray := zip_snd vs
    rw [ez]
    refine wpAny_bind (seqEpoch_at ho6 rfl (wpAny_bind (listUpdate_at ho6 rfl ?_ (Nat.zero_le _) (by rw [List.size_toArray]; omega))))
    simp only [bne_self_eq_false, Bool.false_eq_true, if_false]
    have f := fin (List.toArray (List.range vs.length)) (by unfold OkP; simp) (fun i j ij jl => by
      rw [List.size_toArray] at h2
      have e : i = j := by omega
      subst e
      exact O.irr _)
    rw [out_range] at f
    exact wpAny_pure f
  · rw [if_neg h2, if_neg h2]
    rw [List.size_toArray] at h2
    refine wpAny_bind (wpAny_mono (hk _ old (by omega) _ fun κ ask => ?_) (fun _ _ q => q) fun _ _ x => x.elim)
    refine wpAny_bind (wpAny_mono (kat_run (ks := vs) (Q := fun st' s' => ∃ p : Array Nat, p.size = vs.length ∧ arrOf st' = p.map (kas_item (vs.toArray.zip vs.toArray)) ∧ failedOf st' = none ∧ s' = _ ∧ OkP vs.length p ∧ Ris lt p vs.length) rfl (by omega) h64
      (fun p' st' s' a1 a2 a3 a4 => ⟨p', a1, a2, a3, a4⟩) (pw_wp ask (pw_sort O (by omega)))) ?_ fun _ _ e => e)
    rintro ⟨⟨⟩, st'⟩ s' ⟨p, hp, har, hf, rfl, ok, ri⟩
    dsimp only
    rw [kat_snds rfl har]
    refine wpAny_bind (seqEpoch_at ho6 rfl (wpAny_bind (listUpdate_at ho6 rfl ?_ (Nat.zero_le _) (by rw [List.size_toArray, List.length_map, Array.length_toList, hp]; omega))))
    rw [hf]
    simp only [bne_self_eq_false, Bool.false_eq_true, if_false]
    exact wpAny_pure (fin p ok ri)
theorem sorted_ask {l : Addr} {vs : List Value} {Q : Value → Shared → Prop} {lt : Nat → Nat → Bool} (O : Ordr lt) (hl : s.heap.IsList l vs.toArray) (h64 : vs.length < 64)
    (hk : ∀ h6 : Heap, (∀ b o, s.heap.get? b = some o → h6.get? b = some o) → 2 ≤ vs.length → Asks prog w A.in1.in1 vs lt { s with heap := h6 })
    (fin : ∀ p : Array Nat, OkP vs.length p → Ris lt p vs.length → Q (.ref (s.heap.objs.size + 1)) { s with heap := sortedAll s.heap vs (outOf vs p).toArray }) : wpAny (model prog w) A (call (.builtin "sorted") [.ref l]) Q E s := by
  have hz : vs.length ≤ sizeLine := by rw [sizeLine_eq]; omega
  have hsz : ((s.heap.push (seqObj "list" #[] 0)).update s.heap.objs.size (Obj.mapSeq (· ++ vs.toArray))).objs.size = s.heap.objs.size + 1 := by rw [Heap.size_update, size_push']
  have hoL : (((s.heap.push (seqObj "list" #[] 0)).update s.heap.objs.size (Obj.mapSeq (· ++ vs.toArray))).push (seqObj "list" vs.toArray 0)).get? (s.heap.objs.size + 1) = some (seqObj "list" vs.toArray 0) := by rw [← hsz]; exact Heap.get?_push_size _ rfl
  have keep : ∀ b o, s.heap.get? b = some o → (((s.heap.push (seqObj "list" #[] 0)).update s.heap.objs.size (Obj.mapSeq (· ++ vs.toArray))).push (seqObj "list" vs.toArray 0)).get? b = some o := fun b o q => by
    have hlt : b < s.heap.objs.size := Heap.lt_size q
    refine Heap.get?_push_of_some _ ?_
    rw [Heap.get?_update_ne _ _ _ _ (Nat.ne_of_lt hlt)]
    exact Heap.get?_push_of_some _ q
  refine Calls.call_function_entry kind_sorted plain_sorted entry_sorted (args_sorted1 _) ?_
  unfold Builtin.«sorted»
  refine wpAny_bind (m := checkCount "sorted" 1 1 _) (wpAny_pure (wpAny_bind (collect_list hl (wpAny_bind (wpAny_newList ?_ hz)) hz)))
  show wpAny _ _ _ _ _ { s with heap := ((s.heap.push (seqObj "list" #[] 0)).update s.heap.objs.size (Obj.mapSeq (· ++ vs.toArray))).push (seqObj "list" vs.toArray 0) }
  rw [hsz]
  refine wpAny_bind (wpAny_holding (wpAny_call_entry slot_list_sort ⟨_, hoL, rfl⟩ entry_list_sort (sort_ask (s := { s with heap := ((s.heap.push (seqObj "list" #[] 0)).update s.heap.objs.size (Obj.mapSeq (· ++ vs.toArray))).push (seqObj "list" vs.toArray 0) }) O hoL h64 (fun h6 old => hk h6 fun b o q => old b o (Nat.ne_of_lt (Nat.lt_succ_of_lt (Heap.lt_size q))) (keep b o q)) fun p ok ri => ⟨_, rfl, ?_⟩) (args_list_sort _)))
  exact wpAny_pure ⟨_, rfl, fin p ok ri⟩
/-- pairs of numbers: the first decides, then the second -/
noncomputable def ltP (p q : Pair) : Bool := decide (p.1 < q.1) || (decide (p.1 = q.1) && decide (p.2 < q.2))
noncomputable def leP (p q : Pair) : Prop := p.1 < q.1 ∨ (p.1 = q.1 ∧ p.2 ≤ q.2)
theorem ltP_no {p q : Pair} : ltP q p = false ↔ leP p q := by
  unfold ltP leP
  simp only [Bool.or_eq_false_iff, Bool.and_eq_false_iff, decide_eq_false_iff_not]
  omega
theorem ltP_yes {p q : Pair} : ltP p q = true ↔ ¬ leP q p := by
  rw [← ltP_no]
  simp
theorem ordP (ps : List Pair) : Ordr fun i j => ltP (ps.getD i (0, 0)) (ps.getD j (0, 0)) where
  asym a b h := by
    rw [ltP_yes] at h
    rw [ltP_no]
    unfold leP at h ⊢
    omega
  ntr a b c h1 h2 := by
    rw [ltP_no] at h1 h2 ⊢
    unfold leP at h1 h2 ⊢
    omega
/-- in this heap the values are these pairs -/
noncomputable def PrV (h : Heap) (vs : List Value) (ps : List Pair) : Prop := Paired (fun (v : Value) (p : Pair) => ∃ a t u, v = .ref a ∧ IsTup h a #[.int p.1 t, .int p.2 u]) vs ps
theorem PrV.get {h : Heap} : ∀ {vs : List Value} {ps : List Pair}, PrV h vs ps → ∀ {i : Nat}, i < vs.length → ∃ a t u, vs.getD i Value.none = .ref a ∧ IsTup h a #[.int (ps.getD i (0, 0)).1 t, .int (ps.getD i (0, 0)).2 u]
  | _, _, .nil, i, e => absurd e (by simp)
  | _, _, .cons r t, 0, e => r
  | _, _, .cons r t, i + 1, e => by
    have := PrV.get t (i := i) (by simpa using e)
    simpa using this
theorem PrV.tups {h : Heap} : ∀ {vs : List Value} {ps : List Pair}, PrV h vs ps → ∃ fs : List Value, KatTups h vs fs ∧ fs.length = vs.length ∧ ∀ v ∈ fs, ∃ i t, v = .int i t
  | _, _, .nil => ⟨[], .nil, rfl, fun v hv => by cases hv⟩
  | _, _, .cons (b := p) r t => by
    obtain ⟨fs, k, l, al⟩ := PrV.tups t
    obtain ⟨a, t', u, rfl, o, ho, hc, n, hd⟩ := r
    refine ⟨.int p.1 t' :: fs, .cons ho hc hd rfl k, by simp [l], fun v hv => ?_⟩
    rcases List.mem_cons.mp hv with rfl | hv
    · exact ⟨_, _, rfl⟩
    · exact al v hv
theorem asksP {vs : List Value} {ps : List Pair} {s1 : Shared} (r : PrV s1.heap vs ps) (h2 : 2 ≤ vs.length) : Asks prog w A vs (fun i j => ltP (ps.getD i (0, 0)) (ps.getD j (0, 0))) s1 := by
  intro Q q
  obtain ⟨fs, k, l, al⟩ := r.tups
  refine kat_kind (T := .type "int") k (by omega) (fun v hv => ?_) (by decide) (q _ fun i j C hi hj hc => ?_)
  · obtain ⟨i, t, rfl⟩ := al v hv
    exact Looks.of_pure rfl
  · obtain ⟨a, t, u, e1, o1, g1, c1, n1, d1⟩ := r.get hi
    obtain ⟨b, t', u', e2, o2, g2, c2, n2, d2⟩ := r.get hj
    unfold kas_ask
    rw [e1, e2]
    have hc : C (ltP (ps.getD i (0, 0)) (ps.getD j (0, 0))) s1 := hc
    generalize ps.getD i (0, 0) = p at hc d1
    generalize ps.getD j (0, 0) = q' at hc d2
    obtain ⟨x1, y1⟩ := p
    obtain ⟨x2, y2⟩ := q'
    unfold ltP at hc
    dsimp only at hc d1 d2
    refine kat_lt g1 d1 g2 d2 (kat_cons (wpAny_eqBool_int ?_))
    by_cases ex : x1 = x2
    · subst ex
      rw [show (x1 == x1) = true from by simp]
      refine kat_yes (kat_cons (wpAny_eqBool_int ?_))
      by_cases ey : y1 = y2
      · subst ey
        rw [show (y1 == y1) = true from by simp]
        refine kat_yes (kat_nil ?_)
        have e : (decide (x1 < x1) || decide (x1 = x1) && decide (y1 < y1)) = false := by simp
        rw [e] at hc
        exact hc
      · rw [show (y1 == y2) = false from by simpa using ey]
        refine kat_no (kat_one _ _ (wpAny_lt_int ?_))
        have e : (decide (x1 < x1) || decide (x1 = x1) && decide (y1 < y2)) = decide (y1 < y2) := by simp
        rw [e] at hc
        exact hc
    · rw [show (x1 == x2) = false from by simpa using ex]
      refine kat_no (oneLt_int ?_)
      have e : (decide (x1 < x2) || decide (x1 = x2) && decide (y1 < y2)) = decide (x1 < x2) := by simp [ex]
      rw [e] at hc
      exact hc
end

section
variable {X : Cx}
theorem prv_of {pins : List (Addr × Obj)} {σ : St} {H : Hp} {s : Shared} (I : Inv X pins σ H s) : ∀ {us : List V} {ps : List Pair} {vs : List Value}, Prs H us ps → Vals us vs → PrV s.heap vs ps
  | _, _, _, .nil, .nil => .nil
  | _, _, _, .cons r t, .cons rv tv => by
    obtain ⟨a, rfl, ha⟩ := r
    cases rv
    obtain ⟨its, r', tu, _⟩ := I.tuple (SqT.of ha)
    refine .cons ⟨a, ?_⟩ (prv_of I t tv)
    cases r' with
    | cons x1 r2 =>
      cases r2 with
      | cons x2 r3 =>
        cases r3
        obtain ⟨t1, rfl⟩ := x1
        obtain ⟨t2, rfl⟩ := x2
        exact ⟨t1, t2, rfl, tu⟩
theorem PrV.mono {h h' : Heap} (k : ∀ b o, h.get? b = some o → h'.get? b = some o) : ∀ {vs : List Value} {ps : List Pair}, PrV h vs ps → PrV h' vs ps
  | _, _, .nil => .nil
  | _, _, .cons r t => by
    obtain ⟨a, t1, t2, e, o, ho, hc, n, hd⟩ := r
    exact .cons ⟨a, t1, t2, e, o, k _ _ ho, hc, n, hd⟩ (PrV.mono k t)
/-- things taken by their places -/
theorem pairs_take {α β : Type} {R : α → β → Prop} {as : List α} {bs : List β} (h : Paired R as bs) (da : α) (db : β) : ∀ is : List Nat, (∀ i ∈ is, i < as.length) → Paired R (is.map fun i => as.getD i da) (is.map fun i => bs.getD i db)
  | [], _ => .nil
  | i :: is, hi => by
    refine .cons ?_ (pairs_take h da db is fun j hj => hi j (List.mem_cons_of_mem _ hj))
    have hl := hi i (List.mem_cons_self ..)
    have go : ∀ {as : List α} {bs : List β}, Paired R as bs → ∀ i, i < as.length → R (as.getD i da) (bs.getD i db) := by
      intro as bs h
      induction h with
      | nil => intro i hi; simp at hi
      | cons r t ih =>
        intro i hi
        cases i with
        | zero => simpa using r
        | succ i => simpa using ih i (by simpa using hi)
    exact go h i hl
theorem take_perm {α : Type} (d : α) (l : List α) {is : List Nat} (h : is.Perm (List.range l.length)) : (is.map fun i => l.getD i d).Perm l := by
  refine (h.map _).trans ?_
  have e : (List.range l.length).map (fun i => l.getD i d) = l := List.ext_getElem (by simp) fun i h1 h2 => by simp [h2]
  rw [e]
theorem call_sortedP : CallR X (.builtin "sorted") (fun xs H Q => ∃ (p : Addr) (ps : List Pair), xs = [.ref p] ∧ PLs H p ps ∧ ps.length < 64 ∧ ∀ (q : Addr) (qs : List Pair) (H' : Hp), Same H H' → H q = none → PLs H' q qs → qs.Perm ps → qs.Pairwise leP → Q (.ref q) H') := by
  intro pins s σ H xs us Q I r h
  obtain ⟨p, ps, rfl, ⟨ws, hl, pr⟩, h64, q⟩ := h
  obtain ⟨u, rfl, ru⟩ := vals1 r
  cases ru
  obtain ⟨its, r', pl, hz⟩ := I.list (SqL.of hl)
  have lw := pr.length
  have li : ws.length = its.length := r'.length
  have pv := prv_of I pr r'
  refine sorted_ask (ordP ps) pl.isList (by omega) (fun h6 old h2 => asksP (s1 := { s with heap := h6 }) (pv.mono old) h2) fun g ok ri => ?_
  obtain ⟨e, he⟩ := sortedAll_at s.heap its (outOf its g).toArray
  have hb : ∀ i ∈ g.toList, i < its.length := fun i hi => List.mem_range.mp (ok.mem_iff.mp hi)
  have lg : g.toList.length = its.length := by rw [ok.length_eq, List.length_range]
  have hz2 : (g.toList.map fun i => ws.getD i V.non).length ≤ sizeLine := by rw [List.length_map, lg]; exact sz (by omega)
  have vs2 : Vals (g.toList.map fun i => ws.getD i V.non) (outOf its g) := pairs_take r' V.non Value.none g.toList (fun i hi => by rw [li]; exact hb i hi)
  have pr2 : Prs H (g.toList.map fun i => ws.getD i V.non) (g.toList.map fun i => ps.getD i (0, 0)) := pairs_take pr V.non (0, 0) g.toList (fun i hi => by rw [li]; exact hb i hi)
  have fr : H (s.heap.objs.size + 1) = none := I.hok.fresh (Nat.le_succ _)
  refine ⟨.ref _, _, I.laid (t' := s.toks) (o := .lst (g.toList.map fun i => ws.getD i V.non)) (fun b u e => sortedAll_old e) (Nat.le_succ _) ⟨hz2, outOf its g, e, vs2, by simpa [seqObj] using he⟩, rfl, ?_⟩
  refine q _ _ _ (Same.new (Same.refl H) fr _) fr ⟨_, upd_same, pr2.updN fr _⟩ (take_perm (0, 0) ps (by rw [← lw, li]; exact ok)) ?_
  rw [List.pairwise_map]
  have gs : g.size = its.length := by rw [← lg]; simp
  refine List.pairwise_iff_getElem.mpr fun i j hi hj hij => ?_
  have := ri i j (by omega) (by rw [← gs]; simpa using hj)
  rw [ltP_no] at this
  unfold gA at this
  simpa [show i < g.size by simpa using hi, show j < g.size by simpa using hj] using this
end
end L2

set_option Elab.async false
set_option linter.all false
set_option maxRecDepth 100000
set_option maxHeartbeats 4000000
/-! max of a list of numbers, with a default. -/
namespace L2
open PySem PySem.Spec PyProof.Rows PySem.W
section
variable {prog : Program} {w : World} {A : Around} {E : Value → Shared → Prop} {s : Shared} {R : Result → Shared → Prop} {d : Value} {it : Addr} {fp wr : List Addr} {n : Nat} {P : Nat → Value → Prop} {St : Nat → Heap → Prop}
end
section
variable {X : Cx} {e : Expr} {es : List Expr} {kws : List Keyword} {p pos : Pos} {t tk : TA} {x : Str} {id : String} {ks : List Str} {r : List V → List V → Hp → VK → Prop}
end
end L2

set_option Elab.async false
set_option linter.all false
set_option maxRecDepth 100000
set_option maxHeartbeats 4000000
/-! Floors: cuts, joined and parted. -/
namespace L2
open PySem PySem.Spec PyProof.Rows
section
variable {X : Cx}
end
end L2
namespace Ck
open PySem L2
/-- the cuts of a floor of size n -/
noncomputable def Cut (n : Nat) (p : Pair) : Prop := 0 ≤ p.1 ∧ p.1 + 1 < p.2 ∧ p.2 ≤ (n : Int) + 1 ∧ ¬ (p.1 = 0 ∧ p.2 = (n : Int) + 1)
structure Flo (n : Nat) (ps : List Pair) : Prop where
  cut : ∀ p ∈ ps, Cut n p
  ris : ps.Pairwise leP
  len : ps.length ≤ n
/-- the sides of the triangle that are cuts -/
noncomputable def sides (i j : Nat) : List Pair := (if i = 0 then [] else [(0, (i : Int) + 1)]) ++ (if j = 0 then [] else [((i : Int) + 1, (i : Int) + (j : Int) + 2)])
noncomputable def joinF (i j : Nat) (ps qs : List Pair) : List Pair := ps ++ sides i j ++ qs.map (up ((i : Int) + 1))
theorem sides_len (i j : Nat) : (sides i j).length ≤ 2 := by
  unfold sides
  split <;> split <;> simp
theorem joinF_len {i j : Nat} {ps qs : List Pair} (hp : Flo i ps) (hq : Flo j qs) : (joinF i j ps qs).length ≤ i + j + 2 := by
  unfold joinF
  have := sides_len i j
  have := hp.len
  have := hq.len
  simp only [List.length_append, List.length_map]
  omega
section
variable {i j : Nat} {ps qs : List Pair} (hp : Flo i ps) (hq : Flo j qs)
include hp hq
theorem mem_sides {p : Pair} (h : p ∈ sides i j) : (i ≠ 0 ∧ p = (0, (i : Int) + 1)) ∨ (j ≠ 0 ∧ p = ((i : Int) + 1, (i : Int) + (j : Int) + 2)) := by
  unfold sides at h
  rcases List.mem_append.mp h with h | h
  · left
    split at h
    · cases h
    · exact ⟨by assumption, List.mem_singleton.mp h⟩
  · right
    split at h
    · cases h
    · exact ⟨by assumption, List.mem_singleton.mp h⟩
theorem mem_upq {p : Pair} (h : p ∈ qs.map (up ((i : Int) + 1))) : (i : Int) + 1 ≤ p.1 ∧ p.1 + 1 < p.2 ∧ p.2 ≤ (i : Int) + (j : Int) + 2 ∧ ¬ (p.1 = (i : Int) + 1 ∧ p.2 = (i : Int) + (j : Int) + 2) := by
  obtain ⟨q, hqm, rfl⟩ := List.mem_map.mp h
  have c := hq.cut q hqm
  unfold Cut at c
  unfold up
  dsimp only
  omega
theorem join_cut : ∀ p ∈ joinF i j ps qs, Cut (i + j + 1) p := fun p h => by
  unfold joinF at h
  rcases List.mem_append.mp h with h | h
  · rcases List.mem_append.mp h with h | h
    · have c := hp.cut p h
      unfold Cut at c ⊢
      omega
    · rcases mem_sides hp hq h with ⟨h0, rfl⟩ | ⟨h0, rfl⟩
      · unfold Cut
        dsimp only
        omega
      · unfold Cut
        dsimp only
        omega
  · have c := mem_upq hp hq h
    unfold Cut
    omega
variable {cs : List Pair} (hc : cs.Perm (joinF i j ps qs)) (hs : cs.Pairwise leP)
include hc hs
end
/-- a pair laid behind a list of pairs -/
theorem PLs.put {H : Hp} {l t : Addr} {xs : List V} {ps : List Pair} {p : Pair} (hl : H l = some (.lst xs)) (pr : Prs H xs ps) (ht : H t = some (.tup [.int p.1, .int p.2])) : PLs (L2.upd H l (.lst (xs ++ [.ref t]))) l (ps ++ [p]) :=
  ⟨_, L2.upd_same, (pr.snoc ht).updL hl _⟩
theorem PLs.push {H : Hp} {l t : Addr} {xs : List V} {ps : List Pair} {a b : Int} (hl : H l = some (.lst xs)) (pr : Prs H xs ps) (ht : H t = none) : PLs (L2.upd (L2.upd H t (.tup [.int a, .int b])) l (.lst (xs ++ [.ref t]))) l (ps ++ [(a, b)]) :=
  PLs.put (p := (a, b)) ((L2.upd_ne (ne_of_none hl ht)).trans hl) (pr.updN ht _) L2.upd_same
end Ck

set_option Elab.async false
set_option linter.all false
set_option maxRecDepth 100000
set_option maxHeartbeats 4000000
/-! sorted of lists of numbers. -/
namespace L2
open PySem PySem.Spec PyProof.Rows PySem.W PySem.SeqAt Ck
section
variable {prog : Program} {w : World} {A : Around} {E : Value → Shared → Prop} {s : Shared}
end
end L2

set_option Elab.async false
set_option linter.all false
set_option maxRecDepth 100000
set_option maxHeartbeats 4000000
/-! Lists of lists of ints that may be written to: all apart, and new since H0. -/
namespace Ck
open PySem L2
noncomputable abbrev RoomsAt (H0 H : Hp) (a : Addr) : List Addr → List (List Int) → Prop := Paired (fun (b : Addr) (ns : List Int) => H b = some (.lst (ns.map V.int)) ∧ H0 b = none ∧ b ≠ a)
/-- a list of lists of ints at a -/
noncomputable def LLs (H0 H : Hp) (a : Addr) (rs : List (List Int)) : Prop := ∃ bs : List Addr, H a = some (.lst (bs.map V.ref)) ∧ RoomsAt H0 H a bs rs ∧ bs.Nodup
theorem LLs.nil {H0 H : Hp} {a : Addr} (h : H a = some (.lst [])) : LLs H0 H a [] := ⟨[], h, .nil, List.nodup_nil⟩
theorem LLs.same {H0 H H' : Hp} {a : Addr} {rs : List (List Int)} (h : LLs H0 H a rs) (s : Same H H') : LLs H0 H' a rs :=
  let ⟨bs, e, r, n⟩ := h
  ⟨bs, s _ _ e, Paired.mapP r fun _ _ ⟨p, q⟩ => ⟨s _ _ p, q⟩, n⟩
theorem LLs.len {H0 H : Hp} {a : Addr} {rs : List (List Int)} (h : LLs H0 H a rs) : ∃ xs, H a = some (.lst xs) ∧ xs.length = rs.length :=
  let ⟨bs, e, r, _⟩ := h
  ⟨_, e, by rw [List.length_map]; exact Paired.length r⟩
theorem RoomsAt.get {H0 H : Hp} {a : Addr} : ∀ {bs : List Addr} {rs : List (List Int)}, RoomsAt H0 H a bs rs → ∀ {j : Nat} {ns : List Int}, rs[j]? = some ns → ∃ b, bs[j]? = some b ∧ H b = some (.lst (ns.map V.int)) ∧ H0 b = none ∧ b ≠ a
  | _, _, .nil, j, ns, e => by cases e
  | _, _, .cons r t, 0, ns, e => by
    rw [List.getElem?_cons_zero] at e
    cases e
    exact ⟨_, rfl, r⟩
  | _, _, .cons r t, j + 1, ns, e => RoomsAt.get t (j := j) (by simpa using e)
theorem LLs.get {H0 H : Hp} {a : Addr} {rs : List (List Int)} (h : LLs H0 H a rs) {xs : List V} (hx : H a = some (.lst xs)) {j : Nat} {ns : List Int} (e : rs[j]? = some ns) : ∃ b, xs[j]? = some (.ref b) ∧ H b = some (.lst (ns.map V.int)) ∧ H0 b = none ∧ b ≠ a := by
  obtain ⟨bs, e1, r, _⟩ := h
  rw [hx] at e1
  cases e1
  obtain ⟨b, h1, h2⟩ := r.get e
  exact ⟨b, by rw [List.getElem?_map, h1]; rfl, h2⟩
theorem RoomsAt.updC {H0 H : Hp} {a c : Addr} {o : HO} : ∀ {bs : List Addr} {rs : List (List Int)}, RoomsAt H0 H a bs rs → (∀ b ∈ bs, b ≠ c) → RoomsAt H0 (upd H c o) a bs rs
  | _, _, .nil, _ => .nil
  | _, _, .cons ⟨p, q⟩ t, n => .cons ⟨(upd_ne (n _ (by simp))).trans p, q⟩ (RoomsAt.updC t fun b hb => n b (by simp [hb]))
theorem RoomsAt.all {H0 H : Hp} {a : Addr} : ∀ {bs : List Addr} {rs : List (List Int)}, RoomsAt H0 H a bs rs → ∀ b ∈ bs, (∃ ns : List Int, H b = some (.lst (ns.map V.int))) ∧ H0 b = none ∧ b ≠ a
  | _, _, .nil, b, hb => by cases hb
  | _, _, .cons ⟨p, q⟩ t, b, hb => by
    rcases List.mem_cons.mp hb with rfl | z
    · exact ⟨⟨_, p⟩, q⟩
    · exact RoomsAt.all t b z
theorem LLs.updC {H0 H : Hp} {a c : Addr} {o o' : HO} {rs : List (List Int)} (h : LLs H0 H a rs) (hc : H0 c = some o') (ne : a ≠ c) : LLs H0 (upd H c o) a rs := by
  obtain ⟨bs, e, r, n⟩ := h
  exact ⟨bs, (upd_ne ne).trans e, r.updC (fun b hb z => by have := (r.all b hb).2.1; rw [z, hc] at this; cases this), n⟩
theorem RoomsAt.snoc {H0 H : Hp} {a b : Addr} {ns : List Int} (hb : H b = some (.lst (ns.map V.int))) (h0 : H0 b = none) (ne : b ≠ a) : ∀ {bs : List Addr} {rs : List (List Int)}, RoomsAt H0 H a bs rs → RoomsAt H0 H a (bs ++ [b]) (rs ++ [ns])
  | _, _, .nil => .cons ⟨hb, h0, ne⟩ .nil
  | _, _, .cons r t => .cons r (RoomsAt.snoc hb h0 ne t)
end Ck
namespace Ck
open PySem L2
/-- what was there is still there, perhaps changed -/
noncomputable def Stay (H H' : Hp) : Prop := ∀ b, H' b = none → H b = none
theorem Stay.refl (H : Hp) : Stay H H := fun _ h => h
theorem Stay.free' {H H' : Hp} {b : Addr} (s : Stay H H') (h : H' b = none) : H b = none := s b h
theorem Stay.upd {H H' : Hp} (s : Stay H H') (a : Addr) (o : HO) : Stay H (L2.upd H' a o) := fun b h => s b (by
  by_cases e : b = a
  · rw [e, upd_same] at h; cases h
  · rw [upd_ne e] at h; exact h)
end Ck

set_option Elab.async false
set_option linter.all false
set_option maxRecDepth 100000
set_option maxHeartbeats 4000000
/-! Rooms: sorted of rooms; joined and parted. -/
namespace Ck
open PySem PySem.Spec PyProof.Rows L2
end Ck
namespace L2
open PySem PySem.Spec PyProof.Rows PySem.W Ck
section
variable {X : Cx}
end
end L2
namespace Ck
open PySem L2
noncomputable abbrev hd (r : List Int) : Int := r.getD 0 0
noncomputable def iota (k : Nat) : List Int := (List.range k).map fun (i : Nat) => (i : Int)
/-- rooms of a size -/
structure Rms (k : Nat) (rs : List (List Int)) : Prop where
  ne : ∀ r ∈ rs, r ≠ []
  inc : ∀ r ∈ rs, r.Pairwise (· < ·)
  heads : (rs.map hd).Pairwise (· < ·)
  flat : rs.flatten.Perm (iota k)
theorem mem_iota {k : Nat} {x : Int} : x ∈ iota k ↔ 0 ≤ x ∧ x < (k : Int) := by
  unfold iota
  rw [List.mem_map]
  constructor
  · rintro ⟨i, hi, rfl⟩
    have := List.mem_range.mp hi
    omega
  · rintro ⟨h1, h2⟩
    exact ⟨x.toNat, List.mem_range.mpr (by omega), by omega⟩
theorem Rms.rng {k : Nat} {rs : List (List Int)} (h : Rms k rs) {r : List Int} (hr : r ∈ rs) {x : Int} (hx : x ∈ r) : 0 ≤ x ∧ x < (k : Int) :=
  mem_iota.mp (h.flat.mem_iff.mp (List.mem_flatten.mpr ⟨r, hr, hx⟩))
theorem hd_mem {r : List Int} (h : r ≠ []) : hd r ∈ r := by
  cases r with
  | nil => exact absurd rfl h
  | cons a r => exact List.mem_cons_self ..
/-- whether a room has the greatest number -/
noncomputable def isG (i : Nat) (r : List Int) : Bool := decide (r.getD (r.length - 1) 0 = (i : Int) - 1)
noncomputable def rai (d : Int) (r : List Int) : List Int := r.map (· + d)
noncomputable def joinR (i : Nat) (ls rs : List (List Int)) : List (List Int) := (0 :: rai 1 (ls.filter (isG i)).flatten) :: ((ls.filter fun r => !isG i r).map (rai 1) ++ rs.map (rai ((i : Int) + 1)))
theorem hd_rai {r : List Int} (h : r ≠ []) (d : Int) : hd (rai d r) = hd r + d := by
  cases r with
  | nil => exact absurd rfl h
  | cons a r => rfl
section
variable {i : Nat} {ls : List (List Int)} (h : Rms i ls)
include h
theorem last_mem {r : List Int} (hr : r ∈ ls) : r.getD (r.length - 1) 0 ∈ r := by
  have := List.length_pos_iff.mpr (h.ne r hr)
  rw [List.getD_eq_getElem?_getD, List.getElem?_eq_getElem (show r.length - 1 < r.length by omega)]
  exact List.getElem_mem _
theorem last_ge {r : List Int} (hr : r ∈ ls) {x : Int} (hx : x ∈ r) : x ≤ r.getD (r.length - 1) 0 := by
  have hp := List.length_pos_iff.mpr (h.ne r hr)
  obtain ⟨j, hj, rfl⟩ := List.getElem_of_mem hx
  rw [List.getD_eq_getElem?_getD, List.getElem?_eq_getElem (show r.length - 1 < r.length by omega)]
  show r[j] ≤ r[r.length - 1]
  by_cases e : j = r.length - 1
  · subst e; exact Int.le_refl _
  · exact Int.le_of_lt (List.pairwise_iff_getElem.mp (h.inc r hr) j (r.length - 1) hj (by omega) (by omega))
theorem isG_mem {r : List Int} (hr : r ∈ ls) : isG i r = true ↔ (i : Int) - 1 ∈ r := by
  unfold isG
  rw [decide_eq_true_iff]
  constructor
  · intro e
    rw [← e]
    exact last_mem h hr
  · intro hm
    have h1 := last_ge h hr hm
    have h2 := h.rng hr (last_mem h hr)
    omega
theorem flat_nd : ls.flatten.Nodup := by
  refine h.flat.nodup_iff.mpr ?_
  unfold iota
  refine List.pairwise_map.mpr (List.nodup_range.imp fun hne => ?_)
  omega
theorem great_one : (ls.filter (isG i)).length ≤ 1 := by
  have nd := flat_nd h
  have key : ∀ l : List (List Int), l.flatten.Nodup → (∀ r ∈ l, isG i r = true → (i : Int) - 1 ∈ r) → (l.filter (isG i)).length ≤ 1 := by
    intro l
    induction l with
    | nil => intro _ _; simp
    | cons r l ih =>
      intro nd hm
      rw [List.flatten_cons, List.nodup_append] at nd
      have ih' := ih nd.2.1 fun s hs => hm s (List.mem_cons_of_mem _ hs)
      by_cases g : isG i r = true
      · rw [List.filter_cons_of_pos g]
        have e : l.filter (isG i) = [] := List.filter_eq_nil_iff.mpr fun s hs gs => by
          have m1 := hm r (List.mem_cons_self ..) g
          have m2 := hm s (List.mem_cons_of_mem _ hs) gs
          exact nd.2.2 _ m1 _ (List.mem_flatten.mpr ⟨s, hs, m2⟩) rfl
        rw [e]
        exact Nat.le_refl _
      · rw [List.filter_cons_of_neg g]
        exact ih'
  exact key ls nd fun r hr g => (isG_mem h hr).mp g
variable {j : Nat} {rs : List (List Int)} (h' : Rms j rs)
include h'
end
end Ck

set_option Elab.async false
set_option linter.all false
set_option maxRecDepth 100000
set_option maxHeartbeats 4000000
/-! Lists of rooms: pushed to, joined, spoiled. -/
namespace L2
open PySem PySem.Spec PyProof.Rows
end L2
namespace Ck
open PySem L2
theorem Stay.same {H H' H'' : Hp} (s : Stay H H') (t : Same H' H'') : Stay H H'' := fun b h => s b (t.free h)
theorem LLs.at {H0 H : Hp} {a : Addr} {rs : List (List Int)} {xs : List V} (h : LLs H0 H a rs) (hx : H a = some (.lst xs)) {j : Nat} {v : V} (e : xs[j]? = some v) :
    ∃ b ns, v = .ref b ∧ rs[j]? = some ns ∧ H b = some (.lst (ns.map V.int)) ∧ H0 b = none ∧ b ≠ a := by
  obtain ⟨ys, ey, ly⟩ := h.len
  rw [hx] at ey
  cases ey
  have hj : j < rs.length := by rw [← ly]; exact (List.getElem?_eq_some_iff.mp e).1
  obtain ⟨b, h1, h2, h3, h4⟩ := h.get hx (List.getElem?_eq_getElem hj)
  rw [e] at h1
  cases h1
  exact ⟨b, rs[j], rfl, List.getElem?_eq_getElem hj, h2, h3, h4⟩
theorem LLs.mem {H0 H : Hp} {a : Addr} {rs : List (List Int)} {xs : List V} (h : LLs H0 H a rs) (hx : H a = some (.lst xs)) {v : V} (e : v ∈ xs) :
    ∃ b ns, v = .ref b ∧ ns ∈ rs ∧ H b = some (.lst (ns.map V.int)) ∧ H0 b = none ∧ b ≠ a := by
  obtain ⟨j, hj⟩ := List.mem_iff_getElem?.mp e
  obtain ⟨b, ns, h1, h2, h3⟩ := h.at hx hj
  exact ⟨b, ns, h1, List.mem_of_getElem? h2, h3⟩
theorem LLs.push {H0 H H' : Hp} {a b : Addr} {rs : List (List Int)} {xs : List V} {ns : List Int} (h : LLs H0 H a rs) (hx : H a = some (.lst xs)) (s : Same H H') (fb : H b = none) (hb : H' b = some (.lst (ns.map V.int))) (h0 : H0 b = none) :
    LLs H0 (upd H' a (.lst (xs ++ [.ref b]))) a (rs ++ [ns]) := by
  obtain ⟨bs, e, r, n⟩ := h
  rw [hx] at e
  cases e
  have ne : b ≠ a := fun z => by rw [z, hx] at fb; cases fb
  have nb : ∀ c ∈ bs, c ≠ b := fun c hc z => by
    obtain ⟨⟨ms, e⟩, _⟩ := r.all c hc
    rw [z, fb] at e
    cases e
  have r1 : RoomsAt H0 H' a bs rs := Paired.mapP r fun _ _ ⟨p, q⟩ => ⟨s _ _ p, q⟩
  have r2 : RoomsAt H0 (upd H' a (.lst (bs.map V.ref ++ [.ref b]))) a bs rs := r1.updC fun c hc => (r.all c hc).2.2
  refine ⟨bs ++ [b], by rw [upd_same, List.map_append]; rfl, RoomsAt.snoc ((upd_ne ne).trans hb) h0 ne r2, ?_⟩
  refine List.nodup_append.mpr ⟨n, by simp, ?_⟩
  intro c hc d hd
  have : d = b := by simpa using hd
  rw [this]
  exact nb c hc
theorem rooms_app {H0 H : Hp} {a : Addr} : ∀ {bs cs : List Addr} {rs ss : List (List Int)}, RoomsAt H0 H a bs rs → RoomsAt H0 H a cs ss → RoomsAt H0 H a (bs ++ cs) (rs ++ ss)
  | _, _, _, _, .nil, h => h
  | _, _, _, _, .cons r t, h => .cons r (rooms_app t h)
theorem rooms_new {G H0 H : Hp} {a p : Addr} {o : HO} (hp : H p = none) (g : ∀ c, G c = none → H0 c = none) : ∀ {bs : List Addr} {rs : List (List Int)}, RoomsAt G H a bs rs → RoomsAt H0 (upd H p o) p bs rs
  | _, _, .nil => .nil
  | _, _, .cons ⟨h1, h2, _⟩ t => .cons ⟨(upd_ne (ne_of_none h1 hp)).trans h1, g _ h2, ne_of_none h1 hp⟩ (rooms_new hp g t)
theorem LLs.cat {H0 H1 H : Hp} {a b p : Addr} {rs ss : List (List Int)} {xs ys : List V} (h : LLs H0 H a rs) (hx : H a = some (.lst xs)) (k : LLs H1 H b ss) (hy : H b = some (.lst ys)) (s01 : Same H0 H1) (d : ∀ c, V.ref c ∈ xs → H1 c ≠ none) (hp : H p = none) :
    LLs H0 (upd H p (.lst (xs ++ ys))) p (rs ++ ss) := by
  obtain ⟨bs, e, r, n⟩ := h
  rw [hx] at e
  cases e
  obtain ⟨cs, e, r', n'⟩ := k
  rw [hy] at e
  cases e
  refine ⟨bs ++ cs, by rw [upd_same, List.map_append], rooms_app (rooms_new hp (fun c z => z) r) (rooms_new hp (fun c z => s01.free z) r'), ?_⟩
  refine List.nodup_append.mpr ⟨n, n', ?_⟩
  intro c hc e he z
  have h1 := d c (List.mem_map.mpr ⟨c, hc, rfl⟩)
  have h2 := (r'.all e he).2.1
  rw [← z] at h2
  exact h1 h2
/-- c is no part of the rooms at a -/
noncomputable def OffR (H : Hp) (a c : Addr) : Prop := c ≠ a ∧ ∀ xs, H a = some (.lst xs) → V.ref c ∉ xs
/-- the rooms at p and those at q share nothing -/
noncomputable def Apart (H : Hp) (p q : Addr) : Prop := OffR H p q ∧ ∀ ys c, H q = some (.lst ys) → V.ref c ∈ ys → OffR H p c
/-- all that is no part of the rooms at a stays -/
noncomputable def Only (a : Addr) (H H' : Hp) : Prop := ∀ c, OffR H a c → ∀ o, H c = some o → H' c = some o
theorem atI_lastD {r : List Int} (h : r ≠ []) : atI (r.map V.int) (-1) = some (.int (r.getD (r.length - 1) 0)) := by
  obtain ⟨r0, m, rfl⟩ : ∃ r0 m, r = r0 ++ [m] := ⟨_, _, (List.dropLast_concat_getLast h).symm⟩
  rw [List.map_append]
  refine (atI_last (r0.map V.int) (V.int m)).trans ?_
  simp [List.getD_eq_getElem?_getD]
theorem sum_lens : ∀ ls : List (List Int), (ls.map fun r => (r.length : Int)).sum = (ls.flatten.length : Int)
  | [] => rfl
  | r :: ls => by
    rw [List.map_cons, List.sum_cons, sum_lens ls, List.flatten_cons, List.length_append]
    omega
theorem len_flat : ∀ ls : List (List Int), (∀ r ∈ ls, r ≠ []) → ls.length ≤ ls.flatten.length
  | [], _ => Nat.le_refl _
  | r :: ls, h => by
    have := len_flat ls fun s hs => h s (by simp [hs])
    have := List.length_pos_iff.mpr (h r (by simp))
    rw [List.flatten_cons, List.length_append, List.length_cons]
    omega
theorem len_one : ∀ (ls : List (List Int)) (r : List Int), r ∈ ls → r.length ≤ ls.flatten.length
  | [], r, h => by cases h
  | s :: ls, r, h => by
    rw [List.flatten_cons, List.length_append]
    rcases List.mem_cons.mp h with rfl | h
    · omega
    · have := len_one ls r h
      omega
theorem iota_len (k : Nat) : (iota k).length = k := by unfold iota; simp
theorem Rms.lens {i : Nat} {ls : List (List Int)} (h : Rms i ls) : ls.length ≤ i ∧ ∀ r ∈ ls, r.length ≤ i := by
  have e := h.flat.length_eq
  rw [iota_len] at e
  have := len_flat ls h.ne
  exact ⟨by omega, fun r hr => by have := len_one ls r hr; omega⟩
theorem Rms.size {i : Nat} {ls : List (List Int)} (h : Rms i ls) : (ls.map fun r => (r.length : Int)).sum = (i : Int) := by
  have e := h.flat.length_eq
  rw [iota_len] at e
  rw [sum_lens, e]
theorem filter_takeR {f : List Int → Bool} {ls : List (List Int)} {k : Nat} {r : List Int} (h : ls[k]? = some r) : (ls.take (k + 1)).filter f = (ls.take k).filter f ++ (if f r = true then [r] else []) := by
  rw [List.take_add_one, h, List.filter_append]
  congr 1
  by_cases z : f r = true
  · rw [if_pos z]; exact List.filter_cons_of_pos z
  · rw [if_neg z]; exact List.filter_cons_of_neg z
/-- at the room that has the greatest number, none such came before -/
theorem great_first {i : Nat} {ls : List (List Int)} (h : Rms i ls) {k : Nat} {r : List Int} (e : ls[k]? = some r) (g : isG i r = true) : (ls.take k).filter (isG i) = [] := by
  have h1 := great_one h
  have e1 := filter_takeR (f := isG i) e
  rw [if_pos g] at e1
  have h2 : ((ls.take (k + 1)).filter (isG i)).length ≤ (ls.filter (isG i)).length := ((List.take_sublist _ _).filter _).length_le
  rw [e1, List.length_append] at h2
  exact List.eq_nil_of_length_eq_zero (by simp at h2; omega)
theorem joinR_ne {i j : Nat} {ls rs : List (List Int)} (h : Rms i ls) (h' : Rms j rs) : ∀ r ∈ joinR i ls rs, r ≠ [] := by
  intro r hr
  unfold joinR at hr
  rcases List.mem_cons.mp hr with rfl | hr
  · simp
  · rcases List.mem_append.mp hr with z | z
    · obtain ⟨s, hs, rfl⟩ := List.mem_map.mp z
      have := h.ne s (List.mem_filter.mp hs).1
      unfold rai
      simpa using this
    · obtain ⟨s, hs, rfl⟩ := List.mem_map.mp z
      have := h'.ne s hs
      unfold rai
      simpa using this
end Ck

set_option Elab.async false
set_option linter.all false
set_option maxRecDepth 100000
set_option maxHeartbeats 4000000
/-! Things that part in two: brackets, stairs, twins; their number by parts. -/
namespace Ck
open PySem L2
inductive Bt where
  | leaf
  | node (l r : Bt)
noncomputable def brk : Bt → List Nat
  | .leaf => []
  | .node l r => 40 :: (brk l ++ 41 :: brk r)
/-! ### numbers -/
theorem sum_nn : ∀ l : List Int, (∀ x ∈ l, 0 ≤ x) → 0 ≤ l.sum
  | [], _ => Int.le_refl _
  | x :: l, h => by
    rw [List.sum_cons]
    exact Int.add_nonneg (h x (by simp)) (sum_nn l fun y hy => h y (by simp [hy]))
theorem sh_pos (n : Nat) : 1 ≤ sh n := by
  induction n using Nat.strongRecOn with
  | _ n ih =>
    cases n with
    | zero => rw [sh_zero]; exact Int.le_refl _
    | succ k =>
      rw [sh_succ, List.range_succ_eq_map, List.map_cons, List.sum_cons]
      have h1 := ih k (by omega)
      have h2 : 0 ≤ ((List.map Nat.succ (List.range k)).map fun j => sh j * sh (k - j)).sum := sum_nn _ fun x hx => by
        obtain ⟨j, hj, rfl⟩ := List.mem_map.mp hx
        obtain ⟨i, hi, rfl⟩ := List.mem_map.mp hj
        have := List.mem_range.mp hi
        have a1 := ih (i + 1) (by omega)
        have a2 := ih (k - (i + 1)) (by omega)
        exact Int.mul_nonneg (by show 0 ≤ sh (i + 1); omega) (by show 0 ≤ sh (k - (i + 1)); omega)
      rw [sh_zero, Int.one_mul, Nat.sub_zero]
      omega
/-- how many stand ahead of those whose left part has size j -/
noncomputable def pre (n j : Nat) : Int := ((List.range j).map fun i => sh i * sh (n - 1 - i)).sum
theorem pre_succ (n j : Nat) : pre n (j + 1) = pre n j + sh j * sh (n - 1 - j) := by
  unfold pre
  rw [List.range_succ, List.map_append, List.sum_append]
  simp
theorem pre_all (k : Nat) : pre (k + 1) (k + 1) = sh (k + 1) := by
  rw [sh_succ]
  rfl
theorem sh_big_all : ((List.range 62).all fun k => decide (cN k < 2 ^ 200)) = true := by decide +kernel
theorem sh_big {k : Nat} (h : k ≤ 61) : (sh k).natAbs < 2 ^ 1000 := by
  rw [sh_cR h, cR_cN, Int.natAbs_natCast]
  have := List.all_eq_true.mp sh_big_all k (List.mem_range.mpr (by omega))
  exact Nat.lt_trans (of_decide_eq_true this) (Nat.pow_lt_pow_right (by decide) (by decide))
theorem mulC {a b : Nat} (h : a + b ≤ 39) {x y : Int} (x0 : 0 ≤ x) (x1 : x ≤ sh a) (y0 : 0 ≤ y) (y1 : y ≤ sh b) : CMul x y := by
  by_cases ha : a ≤ 36
  · have := sh_small ha
    exact .inl ⟨by omega, by omega⟩
  · have := sh_small (show b ≤ 36 by omega)
    exact .inr ⟨by omega, by omega⟩
/-! ### twins in the store -/
end Ck

set_option Elab.async false
set_option linter.all false
set_option maxRecDepth 100000
set_option maxHeartbeats 4000000
/-! Bows, rooms, floors, turns by parts: their sizes. -/
namespace Ck
open PySem L2
theorem rai_flat (d : Int) : ∀ xs : List (List Int), (xs.map (rai d)).flatten = rai d xs.flatten
  | [] => rfl
  | x :: xs => by
    rw [List.map_cons, List.flatten_cons, List.flatten_cons, rai_flat d xs]
    unfold rai
    rw [List.map_append]
theorem rai_app (d : Int) (a b : List Int) : rai d (a ++ b) = rai d a ++ rai d b := by unfold rai; exact List.map_append
theorem rai_inc {d : Int} {r : List Int} (h : r.Pairwise (· < ·)) : (rai d r).Pairwise (· < ·) := by
  unfold rai
  rw [List.pairwise_map]
  exact h.imp fun h => by omega
theorem iota_join (i j : Nat) : iota (i + j + 1) = 0 :: (rai 1 (iota i) ++ rai ((i : Int) + 1) (iota j)) := by
  have e1 : (List.range i).map (fun k : Nat => ((k + 1 : Nat) : Int)) = rai 1 (iota i) := by
    unfold rai iota
    rw [List.map_map]
    rfl
  have e2 : (List.range j).map (fun k : Nat => ((i + k + 1 : Nat) : Int)) = rai ((i : Int) + 1) (iota j) := by
    unfold rai iota
    rw [List.map_map]
    refine List.map_congr_left fun k _ => ?_
    show ((i + k + 1 : Nat) : Int) = (k : Int) + ((i : Int) + 1)
    omega
  rw [← e1, ← e2]
  unfold iota
  rw [List.range_succ_eq_map, List.map_cons, List.map_map, List.range_add, List.map_append, List.map_map]
  rfl
theorem Rms.join {i j : Nat} {ls rs : List (List Int)} (h : Rms i ls) (h' : Rms j rs) : Rms (i + j + 1) (joinR i ls rs) := by
  have ne := joinR_ne h h'
  have g1 := great_one h
  have hG : ((0 : Int) :: rai 1 (ls.filter (isG i)).flatten).Pairwise (· < ·) := by
    match e : ls.filter (isG i), g1 with
    | [], _ => simp [rai]
    | [R], _ =>
      have hR : R ∈ ls := (List.mem_filter.mp (by rw [e]; simp)).1
      have e1 : [R].flatten = R := by simp
      rw [e1, List.pairwise_cons]
      refine ⟨fun y hy => ?_, rai_inc (h.inc R hR)⟩
      unfold rai at hy
      obtain ⟨z, hz, rfl⟩ := List.mem_map.mp hy
      have := h.rng hR hz
      omega
    | _ :: _ :: _, g1 => simp at g1
  refine ⟨ne, fun r hr => ?_, ?_, ?_⟩
  · unfold joinR at hr
    rcases List.mem_cons.mp hr with rfl | hr
    · exact hG
    · rcases List.mem_append.mp hr with z | z
      · obtain ⟨s, hs, rfl⟩ := List.mem_map.mp z
        exact rai_inc (h.inc s (List.mem_filter.mp hs).1)
      · obtain ⟨s, hs, rfl⟩ := List.mem_map.mp z
        exact rai_inc (h'.inc s hs)
  · unfold joinR
    rw [List.map_cons, List.map_append, List.pairwise_cons, List.pairwise_append]
    have a1 : ∀ y ∈ ((ls.filter fun r => !isG i r).map (rai 1)).map hd, 1 ≤ y ∧ y ≤ (i : Int) := fun y hy => by
      obtain ⟨z, hz, rfl⟩ := List.mem_map.mp hy
      obtain ⟨s, hs, rfl⟩ := List.mem_map.mp hz
      have hs := (List.mem_filter.mp hs).1
      rw [hd_rai (h.ne s hs)]
      have := h.rng hs (hd_mem (h.ne s hs))
      omega
    have a2 : ∀ y ∈ (rs.map (rai ((i : Int) + 1))).map hd, (i : Int) + 1 ≤ y := fun y hy => by
      obtain ⟨z, hz, rfl⟩ := List.mem_map.mp hy
      obtain ⟨s, hs, rfl⟩ := List.mem_map.mp hz
      rw [hd_rai (h'.ne s hs)]
      have := h'.rng hs (hd_mem (h'.ne s hs))
      omega
    have hh : ∀ {k : Nat} {xs : List (List Int)} (d : Int), (∀ r ∈ xs, r ≠ []) → (xs.map hd).Pairwise (· < ·) → ((xs.map (rai d)).map hd).Pairwise (· < ·) := fun d hne hp => by
      rw [List.pairwise_map, List.pairwise_map]
      rw [List.pairwise_map] at hp
      refine List.Pairwise.imp_of_mem (fun {a b} ha hb hab => ?_) hp
      rw [hd_rai (hne a ha), hd_rai (hne b hb)]
      omega
    refine ⟨fun y hy => ?_, hh (k := 0) 1 (fun r hr => h.ne r (List.mem_filter.mp hr).1) (h.heads.sublist ((List.filter_sublist).map hd)), hh (k := 0) _ h'.ne h'.heads, fun x hx y hy => ?_⟩
    · show (0 : Int) < y
      rcases List.mem_append.mp hy with z | z
      · have := a1 y z; omega
      · have := a2 y z; omega
    · have := a1 x hx
      have := a2 y hy
      omega
  · unfold joinR
    rw [List.flatten_cons, List.flatten_append, rai_flat, rai_flat, iota_join, List.cons_append, ← List.append_assoc, ← rai_app]
    refine List.Perm.cons _ (List.Perm.append ?_ ?_)
    · unfold rai
      refine List.Perm.map _ ?_
      rw [← List.flatten_append]
      exact (List.Perm.flatten (List.filter_append_perm (isG i) ls)).trans h.flat
    · unfold rai
      exact h'.flat.map _
theorem flo_join {i j : Nat} {ps qs cs : List Pair} (hp : Flo i ps) (hq : Flo j qs) (lp : ps.length ≤ i - 1) (lq : qs.length ≤ j - 1) (pm : cs.Perm (joinF i j ps qs)) (ri : cs.Pairwise leP) : Flo (i + j + 1) cs ∧ cs.length ≤ i + j := by
  have l1 := pm.length_eq
  have l2 : (joinF i j ps qs).length ≤ i + j := by
    unfold joinF sides
    rw [List.length_append, List.length_append, List.length_append, List.length_map]
    by_cases h : i = 0
    · by_cases h' : j = 0
      · rw [if_pos h, if_pos h']; simp; omega
      · rw [if_pos h, if_neg h']; simp; omega
    · by_cases h' : j = 0
      · rw [if_neg h, if_pos h']; simp; omega
      · rw [if_neg h, if_neg h']; simp; omega
  exact ⟨⟨fun p h => join_cut hp hq p (pm.mem_iff.mp h), ri, by omega⟩, by omega⟩
/-- a thing of the family w (bows, rooms, floors, turns) of size n -/
noncomputable def Th4 (w : Nat) (H : Hp) (v : V) (n : Nat) : Prop := match w with
  | 0 => ∃ p ps, v = .ref p ∧ PLs H p ps ∧ ps.length = n
  | 1 => ∃ p H0 rs, v = .ref p ∧ LLs H0 H p rs ∧ Rms n rs
  | 2 => ∃ t l cs, v = .ref t ∧ H t = some (.tup [.int ((n : Int) + 2), .ref l]) ∧ PLs H l cs ∧ Flo n cs ∧ cs.length ≤ n - 1
  | _ => ∃ (p : Addr) (ns : List Int), v = .ref p ∧ H p = some (.lst (ns.map V.int)) ∧ ns.length = n
theorem Th4.same {w : Nat} {H H' : Hp} {v : V} {n : Nat} (h : Th4 w H v n) (s : Same H H') : Th4 w H' v n := by
  match w, h with
  | 0, ⟨p, ps, e, h, l⟩ => exact ⟨p, ps, e, h.same s, l⟩
  | 1, ⟨p, H0, rs, e, h, l⟩ => exact ⟨p, H0, rs, e, h.same s, l⟩
  | 2, ⟨t, l, cs, e, h, k, f, z⟩ => exact ⟨t, l, cs, e, s _ _ h, k.same s, f, z⟩
  | _ + 3, ⟨p, ns, e, h, l⟩ => exact ⟨p, ns, e, s _ _ h, l⟩
theorem rms_nil : Rms 0 [] := ⟨fun r h => (by cases h), fun r h => (by cases h), .nil, List.Perm.refl _⟩
end Ck

set_option Elab.async false
set_option linter.all false
set_option maxRecDepth 100000
/-! The head in one piece: the run of the text's top, looked at where it ends. -/
namespace Ck
open PySem PySem.W PySem.Calls PyProof.Rows
/-- what is asked where the top ends -/
noncomputable def endLook {α : Type} (p q : Program) (loose : List Str) (Xt : Shared → Bool) (Yf : Shared → α) (h0 : Heap) (s : Shared) :=
  ((staticsOk (importedModules p.main.body) h0 s.heap && namesBound p s.heap && gensDone s && laidKept h0 s.heap),
    openSeen q loose (importedModules p.main.body) Xt true s, Yf s)
theorem left_whole {p q : Program} {loose : List Str} {Xt : Shared → Bool} {α : Type} {Yf : Shared → α} {Ya : World → α} {N M m : Nat} {H : Params → Heap} {gs : Array GenState} {dr : Drawn} {tk : Nat} {an : Option Value}
    (o : ∀ w : World, (fencedOpening treeTable p w N).map (fun s => (s.heap, s.gens, s.drawn, s.toks)) = some (H w.params, gs, dr, tk))
    (z : ∀ w : World, ((H w.params).isNs mainGlobals && gs.size == 0, (H w.params).objs.size, (H w.params).nsMap mainGlobals "__annotations__") = (true, m, an))
    (r : ∀ (w : World) (os : OsState), ∃ e, topRun treeTable p w m an M ⟨H w.params, gs, dr, tk, os⟩ (topStub p) = some e ∧ endLook p q loose Xt Yf (H w.params) e = (true, openGood q loose, Ya w))
    (le : M ≤ N) : LeftO p q loose Xt Yf Ya N := by
  intro w
  have ow := o w
  cases hf : fencedOpening treeTable p w N with
  | none => rw [hf] at ow; cases ow
  | some s =>
    rw [hf] at ow
    have os := Option.some.inj ow
    have e1 : s.heap = H w.params := congrArg Prod.fst os
    have e2 : s.gens = gs := congrArg (fun x => x.2.1) os
    have e3 : s.drawn = dr := congrArg (fun x => x.2.2.1) os
    have e4 : s.toks = tk := congrArg (fun x => x.2.2.2) os
    obtain ⟨e, run, look⟩ := r w s.os
    have hs : s = ⟨H w.params, gs, dr, tk, s.os⟩ := by rw [← e1, ← e2, ← e3, ← e4]
    have run' := topRun_mono (N - M) _ _ _ _ run
    rw [Nat.add_sub_cancel' le] at run'
    have zw := z w
    have z1 := congrArg Prod.fst zw
    have z2 := congrArg (fun x => x.2.1) zw
    have z3 := congrArg (fun x => x.2.2) zw
    dsimp only at z1 z2 z3
    have l1 := congrArg Prod.fst look
    have l2 := congrArg Prod.snd look
    have tf : topFrom treeTable p w N s = some e := by
      rw [hs]
      unfold topFrom
      dsimp only
      rw [z1, z2, z3, run']
      unfold endLook at l1
      dsimp only at l1
      dsimp only [Option.bind]
      rw [l1]
    unfold openEnds
    rw [hf, Option.bind_some, tf]
    exact congrArg some l2
section
variable {tb : String → Option Builtin} {p : Program} {w : World} {m : Nat} {an : Option Value} {env : Env} {q : Pos}
/-- what the run of the text is asked in the end -/
noncomputable def lookEnd {β : Type} (tb : String → Option Builtin) (p : Program) (w : World) (m : Nat) (an : Option Value) (q : Pos) (c : Code) (n4 : Nat) (L : Shared → β) (r : Flow × SharedT × Code × Pos) : Flow × Code × Option β :=
  (r.1, r.2.2.1, (topRun tb p w m an n4 r.2.1.abs ⟨doneF .next, c, r.2.2.2, [topFrame q]⟩).map L)
theorem run_whole {β : Type} {L : Shared → β} {b : List Stmt} {c : Code} {n1 n2 n3 n4 : Nat} {S0 Sa : Shared} {Sb : SharedT} {pos0 pos1 : Pos} {z : β} (hc : c = .body b env)
    (h1 : topGo tb p w m an n1 S0 (topStub p) = some (Sa, ⟨denote tb c, c, pos0, [topFrame q]⟩))
    (h2 : segRun tb p w m an 1 n2 Sa (blockOf b env c pos0 [topFrame q]) = some (.next, Sb.abs, c, pos1))
    (h3 : (segRunT tb p w m an 1 n3 Sb (piecesOf b env c pos1 [topFrame q])).map (lookEnd tb p w m an q c n4 L) = some (.next, c, some z)) :
    ∃ e, topRun tb p w m an (n1 + (n2 + (n3 + n4))) S0 (topStub p) = some e ∧ L e = z := by
  cases hr : segRunT tb p w m an 1 n3 Sb (piecesOf b env c pos1 [topFrame q]) with
  | none => rw [hr] at h3; cases h3
  | some x =>
    obtain ⟨f, s, d, ps⟩ := x
    rw [hr] at h3
    have h3 := Option.some.inj h3
    unfold lookEnd at h3
    have a1 : f = .next := congrArg Prod.fst h3
    have a2 : d = c := congrArg (fun x => x.2.1) h3
    have a3 := congrArg (fun x => x.2.2) h3
    dsimp only at a3
    subst a1 a2 hc
    cases ht : topRun tb p w m an n4 s.abs ⟨doneF .next, .body b env, ps, [topFrame q]⟩ with
    | none => rw [ht] at a3; cases a3
    | some e =>
      rw [ht] at a3
      have k := piece_app (rest := []) (segRun_of hr) (piece_nil ht)
      rw [List.append_nil] at k
      exact ⟨e, go_top h1 (piece_block h2 k), Option.some.inj a3⟩
end
end Ck

set_option maxHeartbeats 4000000
namespace Ck
open PySem L2
noncomputable def top (i : Nat) : Stmt := PySem.Challenge.pw_countkin_k23_four_families_refuse.main.body.getD i (.Pass ⟨0, 0, 0, 0⟩)
/-- where the classes and their methods lie -/
structure ClA where
  C_Bows : Addr
  C_Family : Addr
  C_Rooms : Addr
  C_Floors : Addr
  C_Turns : Addr
  C_SplitFamily : Addr
  f_Bows__Family___init__ : Addr
  f_Bows__SplitFamily___init__ : Addr
  f_Bows____init__ : Addr
  f_Rooms__Family___init__ : Addr
  f_Rooms__SplitFamily___init__ : Addr
  f_Rooms____init__ : Addr
  f_Floors__Family___init__ : Addr
  f_Floors__SplitFamily___init__ : Addr
  f_Floors____init__ : Addr
  f_Turns__Family___init__ : Addr
  f_Turns__SplitFamily___init__ : Addr
  f_Turns____init__ : Addr
  f_Turns__SplitFamily_unchecked_many : Addr
  f_Turns__Family_many : Addr
  f_Floors__SplitFamily_unchecked_many : Addr
  f_Floors__Family_many : Addr
  f_Rooms__SplitFamily_unchecked_many : Addr
  f_Rooms__Family_many : Addr
  f_Bows__SplitFamily_unchecked_many : Addr
  f_Bows__Family_many : Addr
  f_Turns__bare : Addr
  f_Turns__joined : Addr
  f_Turns__SplitFamily_thing_by_parts : Addr
  f_Turns__SplitFamily_unchecked_thing : Addr
  f_Turns__Family_thing_of : Addr
  f_Floors__bare : Addr
  f_Floors__joined : Addr
  f_Floors__SplitFamily_thing_by_parts : Addr
  f_Floors__SplitFamily_unchecked_thing : Addr
  f_Floors__Family_thing_of : Addr
  f_Rooms__bare : Addr
  f_Rooms__size_of : Addr
  f_Rooms__joined : Addr
  f_Rooms__SplitFamily_thing_by_parts : Addr
  f_Rooms__SplitFamily_unchecked_thing : Addr
  f_Rooms__Family_thing_of : Addr
  f_Bows__bare : Addr
  f_Bows__joined : Addr
  f_Bows__SplitFamily_thing_by_parts : Addr
  f_Bows__SplitFamily_unchecked_thing : Addr
  f_Bows__Family_thing_of : Addr
  f_Bows__size_of : Addr
  f_Floors__size_of : Addr
  f_Turns__size_of : Addr
structure ClOk (K : PySem.W.Frag) (mg : Str → Option Value) (ca : ClA) : Prop where
  m_Family : mg "Family" = some (.ref ca.C_Family)
  m_Bows : mg "Bows" = some (.ref ca.C_Bows)
  m_Rooms : mg "Rooms" = some (.ref ca.C_Rooms)
  m_Floors : mg "Floors" = some (.ref ca.C_Floors)
  m_Turns : mg "Turns" = some (.ref ca.C_Turns)
  m_SplitFamily : mg "SplitFamily" = some (.ref ca.C_SplitFamily)
  c_Bows : Cls K ca.C_Bows
  c_Rooms : Cls K ca.C_Rooms
  c_Floors : Cls K ca.C_Floors
  c_Turns : Cls K ca.C_Turns
  mt_Bows_thing_of : Meth K ca.C_Bows "thing_of" ca.f_Bows__Family_thing_of
  mt_Rooms_thing_of : Meth K ca.C_Rooms "thing_of" ca.f_Rooms__Family_thing_of
  mt_Floors_thing_of : Meth K ca.C_Floors "thing_of" ca.f_Floors__Family_thing_of
  mt_Turns_thing_of : Meth K ca.C_Turns "thing_of" ca.f_Turns__Family_thing_of
  mt_Bows_many : Meth K ca.C_Bows "many" ca.f_Bows__Family_many
  mt_Rooms_many : Meth K ca.C_Rooms "many" ca.f_Rooms__Family_many
  mt_Floors_many : Meth K ca.C_Floors "many" ca.f_Floors__Family_many
  mt_Turns_many : Meth K ca.C_Turns "many" ca.f_Turns__Family_many
  mt_Bows_size_of : Meth K ca.C_Bows "size_of" ca.f_Bows__size_of
  mt_Rooms_size_of : Meth K ca.C_Rooms "size_of" ca.f_Rooms__size_of
  mt_Floors_size_of : Meth K ca.C_Floors "size_of" ca.f_Floors__size_of
  mt_Turns_size_of : Meth K ca.C_Turns "size_of" ca.f_Turns__size_of
  mt_Turns_unchecked_many : Meth K ca.C_Turns "unchecked_many" ca.f_Turns__SplitFamily_unchecked_many
  mt_Floors_unchecked_many : Meth K ca.C_Floors "unchecked_many" ca.f_Floors__SplitFamily_unchecked_many
  mt_Rooms_unchecked_many : Meth K ca.C_Rooms "unchecked_many" ca.f_Rooms__SplitFamily_unchecked_many
  mt_Bows_unchecked_many : Meth K ca.C_Bows "unchecked_many" ca.f_Bows__SplitFamily_unchecked_many
  mt_Turns_unchecked_thing : Meth K ca.C_Turns "unchecked_thing" ca.f_Turns__SplitFamily_unchecked_thing
  mt_Turns_thing_by_parts : Meth K ca.C_Turns "thing_by_parts" ca.f_Turns__SplitFamily_thing_by_parts
  mt_Turns_bare : Meth K ca.C_Turns "bare" ca.f_Turns__bare
  mt_Turns_joined : Meth K ca.C_Turns "joined" ca.f_Turns__joined
  mt_Floors_unchecked_thing : Meth K ca.C_Floors "unchecked_thing" ca.f_Floors__SplitFamily_unchecked_thing
  mt_Floors_thing_by_parts : Meth K ca.C_Floors "thing_by_parts" ca.f_Floors__SplitFamily_thing_by_parts
  mt_Floors_bare : Meth K ca.C_Floors "bare" ca.f_Floors__bare
  mt_Floors_joined : Meth K ca.C_Floors "joined" ca.f_Floors__joined
  mt_Rooms_unchecked_thing : Meth K ca.C_Rooms "unchecked_thing" ca.f_Rooms__SplitFamily_unchecked_thing
  mt_Rooms_thing_by_parts : Meth K ca.C_Rooms "thing_by_parts" ca.f_Rooms__SplitFamily_thing_by_parts
  mt_Rooms_bare : Meth K ca.C_Rooms "bare" ca.f_Rooms__bare
  mt_Rooms_joined : Meth K ca.C_Rooms "joined" ca.f_Rooms__joined
  mt_Bows_unchecked_thing : Meth K ca.C_Bows "unchecked_thing" ca.f_Bows__SplitFamily_unchecked_thing
  mt_Bows_thing_by_parts : Meth K ca.C_Bows "thing_by_parts" ca.f_Bows__SplitFamily_thing_by_parts
  mt_Bows_bare : Meth K ca.C_Bows "bare" ca.f_Bows__bare
  mt_Bows_joined : Meth K ca.C_Bows "joined" ca.f_Bows__joined
  mk_Bows : Mk K ca.C_Bows ca.f_Bows____init__
  mk_Rooms : Mk K ca.C_Rooms ca.f_Rooms____init__
  mk_Floors : Mk K ca.C_Floors ca.f_Floors____init__
  mk_Turns : Mk K ca.C_Turns ca.f_Turns____init__
  cm_SplitFamily___init___Bows : ClsM K ca.C_SplitFamily "__init__" ca.f_Bows__SplitFamily___init__
  cm_Family___init___Bows : ClsM K ca.C_Family "__init__" ca.f_Bows__Family___init__
  cm_SplitFamily___init___Rooms : ClsM K ca.C_SplitFamily "__init__" ca.f_Rooms__SplitFamily___init__
  cm_Family___init___Rooms : ClsM K ca.C_Family "__init__" ca.f_Rooms__Family___init__
  cm_SplitFamily___init___Floors : ClsM K ca.C_SplitFamily "__init__" ca.f_Floors__SplitFamily___init__
  cm_Family___init___Floors : ClsM K ca.C_Family "__init__" ca.f_Floors__Family___init__
  cm_SplitFamily___init___Turns : ClsM K ca.C_SplitFamily "__init__" ca.f_Turns__SplitFamily___init__
  cm_Family___init___Turns : ClsM K ca.C_Family "__init__" ca.f_Turns__Family___init__
  na_Bows_word : NoAttr K ca.C_Bows "word"
  na_Bows_least : NoAttr K ca.C_Bows "least"
  na_Rooms_word : NoAttr K ca.C_Rooms "word"
  na_Rooms_least : NoAttr K ca.C_Rooms "least"
  na_Floors_word : NoAttr K ca.C_Floors "word"
  na_Floors_least : NoAttr K ca.C_Floors "least"
  na_Turns_word : NoAttr K ca.C_Turns "word"
  na_Turns_least : NoAttr K ca.C_Turns "least"
  in_Bows : InsT K ca.C_Bows
  in_Rooms : InsT K ca.C_Rooms
  in_Floors : InsT K ca.C_Floors
  in_Turns : InsT K ca.C_Turns
  kit_Bows_Family : PySem.W.kitOne K (.ref ca.C_Bows) (.ref ca.C_Family) = some true
  kit_Rooms_Family : PySem.W.kitOne K (.ref ca.C_Rooms) (.ref ca.C_Family) = some true
  kit_Floors_Family : PySem.W.kitOne K (.ref ca.C_Floors) (.ref ca.C_Family) = some true
  kit_Turns_Family : PySem.W.kitOne K (.ref ca.C_Turns) (.ref ca.C_Family) = some true
noncomputable abbrev s_Bows__Family___init__ : Stmt := inClass (top 17) 0
theorem sc_Bows__Family___init__ : FnScope ["self", "word", "least"] ["self", "word", "least"] (defScope s_Bows__Family___init__) := ⟨rfl, rfl, rfl, by decide +kernel, rfl, by decide +kernel, by decide +kernel⟩
noncomputable abbrev s_Bows__SplitFamily___init__ : Stmt := inClass (top 18) 0
theorem sc_Bows__SplitFamily___init__ : FnScope ["self", "word"] ["self", "word"] (defScope s_Bows__SplitFamily___init__) := ⟨rfl, rfl, rfl, by decide +kernel, rfl, by decide +kernel, by decide +kernel⟩
noncomputable abbrev s_Bows____init__ : Stmt := inClass (top 26) 0
theorem sc_Bows____init__ : FnScope ["self"] ["self"] (defScope s_Bows____init__) := ⟨rfl, rfl, rfl, by decide +kernel, rfl, by decide +kernel, by decide +kernel⟩
noncomputable abbrev s_Rooms__Family___init__ : Stmt := inClass (top 17) 0
theorem sc_Rooms__Family___init__ : FnScope ["self", "word", "least"] ["self", "word", "least"] (defScope s_Rooms__Family___init__) := ⟨rfl, rfl, rfl, by decide +kernel, rfl, by decide +kernel, by decide +kernel⟩
noncomputable abbrev s_Rooms__SplitFamily___init__ : Stmt := inClass (top 18) 0
theorem sc_Rooms__SplitFamily___init__ : FnScope ["self", "word"] ["self", "word"] (defScope s_Rooms__SplitFamily___init__) := ⟨rfl, rfl, rfl, by decide +kernel, rfl, by decide +kernel, by decide +kernel⟩
noncomputable abbrev s_Rooms____init__ : Stmt := inClass (top 27) 0
theorem sc_Rooms____init__ : FnScope ["self"] ["self"] (defScope s_Rooms____init__) := ⟨rfl, rfl, rfl, by decide +kernel, rfl, by decide +kernel, by decide +kernel⟩
noncomputable abbrev s_Floors__Family___init__ : Stmt := inClass (top 17) 0
theorem sc_Floors__Family___init__ : FnScope ["self", "word", "least"] ["self", "word", "least"] (defScope s_Floors__Family___init__) := ⟨rfl, rfl, rfl, by decide +kernel, rfl, by decide +kernel, by decide +kernel⟩
noncomputable abbrev s_Floors__SplitFamily___init__ : Stmt := inClass (top 18) 0
theorem sc_Floors__SplitFamily___init__ : FnScope ["self", "word"] ["self", "word"] (defScope s_Floors__SplitFamily___init__) := ⟨rfl, rfl, rfl, by decide +kernel, rfl, by decide +kernel, by decide +kernel⟩
noncomputable abbrev s_Floors____init__ : Stmt := inClass (top 30) 0
theorem sc_Floors____init__ : FnScope ["self"] ["self"] (defScope s_Floors____init__) := ⟨rfl, rfl, rfl, by decide +kernel, rfl, by decide +kernel, by decide +kernel⟩
noncomputable abbrev s_Turns__Family___init__ : Stmt := inClass (top 17) 0
theorem sc_Turns__Family___init__ : FnScope ["self", "word", "least"] ["self", "word", "least"] (defScope s_Turns__Family___init__) := ⟨rfl, rfl, rfl, by decide +kernel, rfl, by decide +kernel, by decide +kernel⟩
noncomputable abbrev s_Turns__SplitFamily___init__ : Stmt := inClass (top 18) 0
theorem sc_Turns__SplitFamily___init__ : FnScope ["self", "word"] ["self", "word"] (defScope s_Turns__SplitFamily___init__) := ⟨rfl, rfl, rfl, by decide +kernel, rfl, by decide +kernel, by decide +kernel⟩
noncomputable abbrev s_Turns____init__ : Stmt := inClass (top 33) 0
theorem sc_Turns____init__ : FnScope ["self"] ["self"] (defScope s_Turns____init__) := ⟨rfl, rfl, rfl, by decide +kernel, rfl, by decide +kernel, by decide +kernel⟩
noncomputable abbrev s__law_kin : Stmt := top 38
theorem sc__law_kin : FnScope ["_law_word"] ["_law_word"] (defScope s__law_kin) := ⟨rfl, rfl, rfl, by decide +kernel, rfl, by decide +kernel, by decide +kernel⟩
noncomputable abbrev s__law_cell_at : Stmt := top 36
theorem sc__law_cell_at : FnScope ["_law_script", "_law_k"] ["_law_script", "_law_k"] (defScope s__law_cell_at) := ⟨rfl, rfl, rfl, by decide +kernel, rfl, by decide +kernel, by decide +kernel⟩
noncomputable abbrev s__law_counts : Stmt := top 37
theorem sc__law_counts : FnScope ["_law_most", "_law_counts_here", "_law_k"] ["_law_most"] (defScope s__law_counts) := ⟨rfl, rfl, rfl, by decide +kernel, rfl, by decide +kernel, by decide +kernel⟩
noncomputable abbrev s_by_rule : Stmt := top 4
theorem sc_by_rule : FnScope ["size", "share", "k"] ["size"] (defScope s_by_rule) := ⟨rfl, rfl, rfl, by decide +kernel, rfl, by decide +kernel, by decide +kernel⟩
noncomputable abbrev s_Turns__SplitFamily_unchecked_many : Stmt := inClass (top 18) 4
theorem sc_Turns__SplitFamily_unchecked_many : FnScope ["self", "size"] ["self", "size"] (defScope s_Turns__SplitFamily_unchecked_many) := ⟨rfl, rfl, rfl, by decide +kernel, rfl, by decide +kernel, by decide +kernel⟩
noncomputable abbrev s_Turns__Family_many : Stmt := inClass (top 17) 6
theorem sc_Turns__Family_many : FnScope ["self", "size"] ["self", "size"] (defScope s_Turns__Family_many) := ⟨rfl, rfl, rfl, by decide +kernel, rfl, by decide +kernel, by decide +kernel⟩
noncomputable abbrev s_Floors__SplitFamily_unchecked_many : Stmt := inClass (top 18) 4
theorem sc_Floors__SplitFamily_unchecked_many : FnScope ["self", "size"] ["self", "size"] (defScope s_Floors__SplitFamily_unchecked_many) := ⟨rfl, rfl, rfl, by decide +kernel, rfl, by decide +kernel, by decide +kernel⟩
noncomputable abbrev s_Floors__Family_many : Stmt := inClass (top 17) 6
theorem sc_Floors__Family_many : FnScope ["self", "size"] ["self", "size"] (defScope s_Floors__Family_many) := ⟨rfl, rfl, rfl, by decide +kernel, rfl, by decide +kernel, by decide +kernel⟩
noncomputable abbrev s_Rooms__SplitFamily_unchecked_many : Stmt := inClass (top 18) 4
theorem sc_Rooms__SplitFamily_unchecked_many : FnScope ["self", "size"] ["self", "size"] (defScope s_Rooms__SplitFamily_unchecked_many) := ⟨rfl, rfl, rfl, by decide +kernel, rfl, by decide +kernel, by decide +kernel⟩
noncomputable abbrev s_Rooms__Family_many : Stmt := inClass (top 17) 6
theorem sc_Rooms__Family_many : FnScope ["self", "size"] ["self", "size"] (defScope s_Rooms__Family_many) := ⟨rfl, rfl, rfl, by decide +kernel, rfl, by decide +kernel, by decide +kernel⟩
noncomputable abbrev s_Bows__SplitFamily_unchecked_many : Stmt := inClass (top 18) 4
theorem sc_Bows__SplitFamily_unchecked_many : FnScope ["self", "size"] ["self", "size"] (defScope s_Bows__SplitFamily_unchecked_many) := ⟨rfl, rfl, rfl, by decide +kernel, rfl, by decide +kernel, by decide +kernel⟩
noncomputable abbrev s_Bows__Family_many : Stmt := inClass (top 17) 6
theorem sc_Bows__Family_many : FnScope ["self", "size"] ["self", "size"] (defScope s_Bows__Family_many) := ⟨rfl, rfl, rfl, by decide +kernel, rfl, by decide +kernel, by decide +kernel⟩
noncomputable abbrev s__law_classes : Stmt := top 39
theorem sc__law_classes : FnScope ["_law_error", "_law_found"] ["_law_error"] (defScope s__law_classes) := ⟨rfl, rfl, rfl, by decide +kernel, rfl, by decide +kernel, by decide +kernel⟩
noncomputable abbrev s__law_many_refused : Stmt := top 40
theorem sc__law_many_refused : FnScope ["_law_kin_here", "_law_size", "_law_caught", "e"] ["_law_kin_here", "_law_size"] (defScope s__law_many_refused) := ⟨rfl, rfl, rfl, by decide +kernel, rfl, by decide +kernel, by decide +kernel⟩
noncomputable abbrev s_Turns__bare : Stmt := inClass (top 33) 3
theorem sc_Turns__bare : FnScope ["self"] ["self"] (defScope s_Turns__bare) := ⟨rfl, rfl, rfl, by decide +kernel, rfl, by decide +kernel, by decide +kernel⟩
noncomputable abbrev s_raised_by : Stmt := top 20
theorem sc_raised_by : FnScope ["numbers", "step"] ["numbers", "step"] (defScope s_raised_by) := ⟨rfl, rfl, rfl, by decide +kernel, rfl, by decide +kernel, by decide +kernel⟩
noncomputable abbrev s_Turns__joined : Stmt := inClass (top 33) 5
theorem sc_Turns__joined : FnScope ["self", "left", "right"] ["self", "left", "right"] (defScope s_Turns__joined) := ⟨rfl, rfl, rfl, by decide +kernel, rfl, by decide +kernel, by decide +kernel⟩
noncomputable abbrev s_Turns__SplitFamily_thing_by_parts : Stmt := inClass (top 18) 8
theorem sc_Turns__SplitFamily_thing_by_parts : FnScope ["self", "counts", "size", "number", "left_size", "rest", "right_size", "left", "right"] ["self", "counts", "size", "number"] (defScope s_Turns__SplitFamily_thing_by_parts) := ⟨rfl, rfl, rfl, by decide +kernel, rfl, by decide +kernel, by decide +kernel⟩
noncomputable abbrev s_shares : Stmt := top 3
theorem sc_shares : FnScope ["most", "found", "k"] ["most"] (defScope s_shares) := ⟨rfl, rfl, rfl, by decide +kernel, rfl, by decide +kernel, by decide +kernel⟩
noncomputable abbrev s_Turns__SplitFamily_unchecked_thing : Stmt := inClass (top 18) 6
theorem sc_Turns__SplitFamily_unchecked_thing : FnScope ["self", "size", "number"] ["self", "size", "number"] (defScope s_Turns__SplitFamily_unchecked_thing) := ⟨rfl, rfl, rfl, by decide +kernel, rfl, by decide +kernel, by decide +kernel⟩
noncomputable abbrev s_Turns__Family_thing_of : Stmt := inClass (top 17) 9
theorem sc_Turns__Family_thing_of : FnScope ["self", "size", "number", "most"] ["self", "size", "number"] (defScope s_Turns__Family_thing_of) := ⟨rfl, rfl, rfl, by decide +kernel, rfl, by decide +kernel, by decide +kernel⟩
noncomputable abbrev s_Floors__bare : Stmt := inClass (top 30) 3
theorem sc_Floors__bare : FnScope ["self"] ["self"] (defScope s_Floors__bare) := ⟨rfl, rfl, rfl, by decide +kernel, rfl, by decide +kernel, by decide +kernel⟩
noncomputable abbrev s_pairs_raised_by : Stmt := top 21
theorem sc_pairs_raised_by : FnScope ["pairs", "step"] ["pairs", "step"] (defScope s_pairs_raised_by) := ⟨rfl, rfl, rfl, by decide +kernel, rfl, by decide +kernel, by decide +kernel⟩
noncomputable abbrev s_Floors__joined : Stmt := inClass (top 30) 5
theorem sc_Floors__joined : FnScope ["self", "left", "right", "third", "last", "cuts"] ["self", "left", "right"] (defScope s_Floors__joined) := ⟨rfl, rfl, rfl, by decide +kernel, rfl, by decide +kernel, by decide +kernel⟩
noncomputable abbrev s_Floors__SplitFamily_thing_by_parts : Stmt := inClass (top 18) 8
theorem sc_Floors__SplitFamily_thing_by_parts : FnScope ["self", "counts", "size", "number", "left_size", "rest", "right_size", "left", "right"] ["self", "counts", "size", "number"] (defScope s_Floors__SplitFamily_thing_by_parts) := ⟨rfl, rfl, rfl, by decide +kernel, rfl, by decide +kernel, by decide +kernel⟩
noncomputable abbrev s_Floors__SplitFamily_unchecked_thing : Stmt := inClass (top 18) 6
theorem sc_Floors__SplitFamily_unchecked_thing : FnScope ["self", "size", "number"] ["self", "size", "number"] (defScope s_Floors__SplitFamily_unchecked_thing) := ⟨rfl, rfl, rfl, by decide +kernel, rfl, by decide +kernel, by decide +kernel⟩
noncomputable abbrev s_Floors__Family_thing_of : Stmt := inClass (top 17) 9
theorem sc_Floors__Family_thing_of : FnScope ["self", "size", "number", "most"] ["self", "size", "number"] (defScope s_Floors__Family_thing_of) := ⟨rfl, rfl, rfl, by decide +kernel, rfl, by decide +kernel, by decide +kernel⟩
noncomputable abbrev s_Rooms__bare : Stmt := inClass (top 27) 3
theorem sc_Rooms__bare : FnScope ["self"] ["self"] (defScope s_Rooms__bare) := ⟨rfl, rfl, rfl, by decide +kernel, rfl, by decide +kernel, by decide +kernel⟩
noncomputable abbrev s_Rooms__size_of : Stmt := inClass (top 27) 1
theorem sc_Rooms__size_of : FnScope ["self", "thing"] ["self", "thing"] (defScope s_Rooms__size_of) := ⟨rfl, rfl, rfl, by decide +kernel, rfl, by decide +kernel, by decide +kernel⟩
noncomputable abbrev s_Rooms__joined : Stmt := inClass (top 27) 5
theorem sc_Rooms__joined : FnScope ["self", "left", "right", "left_size", "first", "others", "room"] ["self", "left", "right"] (defScope s_Rooms__joined) := ⟨rfl, rfl, rfl, by decide +kernel, rfl, by decide +kernel, by decide +kernel⟩
noncomputable abbrev s_Rooms__SplitFamily_thing_by_parts : Stmt := inClass (top 18) 8
theorem sc_Rooms__SplitFamily_thing_by_parts : FnScope ["self", "counts", "size", "number", "left_size", "rest", "right_size", "left", "right"] ["self", "counts", "size", "number"] (defScope s_Rooms__SplitFamily_thing_by_parts) := ⟨rfl, rfl, rfl, by decide +kernel, rfl, by decide +kernel, by decide +kernel⟩
noncomputable abbrev s_Rooms__SplitFamily_unchecked_thing : Stmt := inClass (top 18) 6
theorem sc_Rooms__SplitFamily_unchecked_thing : FnScope ["self", "size", "number"] ["self", "size", "number"] (defScope s_Rooms__SplitFamily_unchecked_thing) := ⟨rfl, rfl, rfl, by decide +kernel, rfl, by decide +kernel, by decide +kernel⟩
noncomputable abbrev s_Rooms__Family_thing_of : Stmt := inClass (top 17) 9
theorem sc_Rooms__Family_thing_of : FnScope ["self", "size", "number", "most"] ["self", "size", "number"] (defScope s_Rooms__Family_thing_of) := ⟨rfl, rfl, rfl, by decide +kernel, rfl, by decide +kernel, by decide +kernel⟩
noncomputable abbrev s_Bows__bare : Stmt := inClass (top 26) 3
theorem sc_Bows__bare : FnScope ["self"] ["self"] (defScope s_Bows__bare) := ⟨rfl, rfl, rfl, by decide +kernel, rfl, by decide +kernel, by decide +kernel⟩
noncomputable abbrev s_Bows__joined : Stmt := inClass (top 26) 5
theorem sc_Bows__joined : FnScope ["self", "left", "right", "end"] ["self", "left", "right"] (defScope s_Bows__joined) := ⟨rfl, rfl, rfl, by decide +kernel, rfl, by decide +kernel, by decide +kernel⟩
noncomputable abbrev s_Bows__SplitFamily_thing_by_parts : Stmt := inClass (top 18) 8
theorem sc_Bows__SplitFamily_thing_by_parts : FnScope ["self", "counts", "size", "number", "left_size", "rest", "right_size", "left", "right"] ["self", "counts", "size", "number"] (defScope s_Bows__SplitFamily_thing_by_parts) := ⟨rfl, rfl, rfl, by decide +kernel, rfl, by decide +kernel, by decide +kernel⟩
noncomputable abbrev s_Bows__SplitFamily_unchecked_thing : Stmt := inClass (top 18) 6
theorem sc_Bows__SplitFamily_unchecked_thing : FnScope ["self", "size", "number"] ["self", "size", "number"] (defScope s_Bows__SplitFamily_unchecked_thing) := ⟨rfl, rfl, rfl, by decide +kernel, rfl, by decide +kernel, by decide +kernel⟩
noncomputable abbrev s_Bows__Family_thing_of : Stmt := inClass (top 17) 9
theorem sc_Bows__Family_thing_of : FnScope ["self", "size", "number", "most"] ["self", "size", "number"] (defScope s_Bows__Family_thing_of) := ⟨rfl, rfl, rfl, by decide +kernel, rfl, by decide +kernel, by decide +kernel⟩
noncomputable abbrev s__law_thing_refused : Stmt := top 41
theorem sc__law_thing_refused : FnScope ["_law_kin_here", "_law_size", "_law_number", "_law_caught", "e"] ["_law_kin_here", "_law_size", "_law_number"] (defScope s__law_thing_refused) := ⟨rfl, rfl, rfl, by decide +kernel, rfl, by decide +kernel, by decide +kernel⟩
noncomputable abbrev s_Bows__size_of : Stmt := inClass (top 26) 1
theorem sc_Bows__size_of : FnScope ["self", "thing"] ["self", "thing"] (defScope s_Bows__size_of) := ⟨rfl, rfl, rfl, by decide +kernel, rfl, by decide +kernel, by decide +kernel⟩
noncomputable abbrev s_Floors__size_of : Stmt := inClass (top 30) 1
theorem sc_Floors__size_of : FnScope ["self", "thing"] ["self", "thing"] (defScope s_Floors__size_of) := ⟨rfl, rfl, rfl, by decide +kernel, rfl, by decide +kernel, by decide +kernel⟩
noncomputable abbrev s_Turns__size_of : Stmt := inClass (top 33) 1
theorem sc_Turns__size_of : FnScope ["self", "thing"] ["self", "thing"] (defScope s_Turns__size_of) := ⟨rfl, rfl, rfl, by decide +kernel, rfl, by decide +kernel, by decide +kernel⟩
noncomputable abbrev s_law : Stmt := top 42
theorem sc_law : FnScope ["_law_script", "_law_kin_here", "_law_size", "_law_many", "_law_far", "_law_none", "_law_number", "_law_other", "_law_one", "_law_most", "_law_good"] ["_law_script"] (defScope s_law) := ⟨rfl, rfl, rfl, by decide +kernel, rfl, by decide +kernel, by decide +kernel⟩
noncomputable def sp_Bows__Family___init__ (_ : PySem.W.Frag) (ca : ClA) : Sp := fun vs H Q _ => ∃ (x dx : Addr) (w : Str) (l : Int), vs = [.ref x, .str w, .int l] ∧ H x = some (.ins ca.C_Bows dx []) ∧ ∀ (fs : List (Str × V)) (H' : Hp), H' = upd H x (.ins ca.C_Bows dx fs) → Flds fs w l → Q .non H'
noncomputable def sp_Bows__SplitFamily___init__ (_ : PySem.W.Frag) (ca : ClA) : Sp := fun vs H Q _ => ∃ (x dx : Addr) (w : Str), vs = [.ref x, .str w] ∧ H x = some (.ins ca.C_Bows dx []) ∧ ∀ (fs : List (Str × V)) (H' : Hp), H' = upd H x (.ins ca.C_Bows dx fs) → Flds fs w 0 → Q .non H'
noncomputable def sp_Bows____init__ (_ : PySem.W.Frag) (ca : ClA) : Sp := fun vs H Q _ => ∃ x dx, vs = [.ref x] ∧ H x = some (.ins ca.C_Bows dx []) ∧ ∀ (fs : List (Str × V)) (H' : Hp), H' = upd H x (.ins ca.C_Bows dx fs) → Flds fs "bows" 0 → Q .non H'
noncomputable def sp_Rooms__Family___init__ (_ : PySem.W.Frag) (ca : ClA) : Sp := fun vs H Q _ => ∃ (x dx : Addr) (w : Str) (l : Int), vs = [.ref x, .str w, .int l] ∧ H x = some (.ins ca.C_Rooms dx []) ∧ ∀ (fs : List (Str × V)) (H' : Hp), H' = upd H x (.ins ca.C_Rooms dx fs) → Flds fs w l → Q .non H'
noncomputable def sp_Rooms__SplitFamily___init__ (_ : PySem.W.Frag) (ca : ClA) : Sp := fun vs H Q _ => ∃ (x dx : Addr) (w : Str), vs = [.ref x, .str w] ∧ H x = some (.ins ca.C_Rooms dx []) ∧ ∀ (fs : List (Str × V)) (H' : Hp), H' = upd H x (.ins ca.C_Rooms dx fs) → Flds fs w 0 → Q .non H'
noncomputable def sp_Rooms____init__ (_ : PySem.W.Frag) (ca : ClA) : Sp := fun vs H Q _ => ∃ x dx, vs = [.ref x] ∧ H x = some (.ins ca.C_Rooms dx []) ∧ ∀ (fs : List (Str × V)) (H' : Hp), H' = upd H x (.ins ca.C_Rooms dx fs) → Flds fs "rooms" 0 → Q .non H'
noncomputable def sp_Floors__Family___init__ (_ : PySem.W.Frag) (ca : ClA) : Sp := fun vs H Q _ => ∃ (x dx : Addr) (w : Str) (l : Int), vs = [.ref x, .str w, .int l] ∧ H x = some (.ins ca.C_Floors dx []) ∧ ∀ (fs : List (Str × V)) (H' : Hp), H' = upd H x (.ins ca.C_Floors dx fs) → Flds fs w l → Q .non H'
noncomputable def sp_Floors__SplitFamily___init__ (_ : PySem.W.Frag) (ca : ClA) : Sp := fun vs H Q _ => ∃ (x dx : Addr) (w : Str), vs = [.ref x, .str w] ∧ H x = some (.ins ca.C_Floors dx []) ∧ ∀ (fs : List (Str × V)) (H' : Hp), H' = upd H x (.ins ca.C_Floors dx fs) → Flds fs w 0 → Q .non H'
noncomputable def sp_Floors____init__ (_ : PySem.W.Frag) (ca : ClA) : Sp := fun vs H Q _ => ∃ x dx, vs = [.ref x] ∧ H x = some (.ins ca.C_Floors dx []) ∧ ∀ (fs : List (Str × V)) (H' : Hp), H' = upd H x (.ins ca.C_Floors dx fs) → Flds fs "floor" 0 → Q .non H'
noncomputable def sp_Turns__Family___init__ (_ : PySem.W.Frag) (ca : ClA) : Sp := fun vs H Q _ => ∃ (x dx : Addr) (w : Str) (l : Int), vs = [.ref x, .str w, .int l] ∧ H x = some (.ins ca.C_Turns dx []) ∧ ∀ (fs : List (Str × V)) (H' : Hp), H' = upd H x (.ins ca.C_Turns dx fs) → Flds fs w l → Q .non H'
noncomputable def sp_Turns__SplitFamily___init__ (_ : PySem.W.Frag) (ca : ClA) : Sp := fun vs H Q _ => ∃ (x dx : Addr) (w : Str), vs = [.ref x, .str w] ∧ H x = some (.ins ca.C_Turns dx []) ∧ ∀ (fs : List (Str × V)) (H' : Hp), H' = upd H x (.ins ca.C_Turns dx fs) → Flds fs w 0 → Q .non H'
noncomputable def sp_Turns____init__ (_ : PySem.W.Frag) (ca : ClA) : Sp := fun vs H Q _ => ∃ x dx, vs = [.ref x] ∧ H x = some (.ins ca.C_Turns dx []) ∧ ∀ (fs : List (Str × V)) (H' : Hp), H' = upd H x (.ins ca.C_Turns dx fs) → Flds fs "turns" 0 → Q .non H'
noncomputable def sp__law_kin (K : PySem.W.Frag) (ca : ClA) : Sp := fun vs H Q _ => ∃ (w : Int), vs = [.int w] ∧ 0 ≤ w ∧ w < 4 ∧
  ∀ (x dx : Addr) (fs : List (Str × V)) (H' : Hp), Same H H' → ((w = 0 → H' x = some (.ins ca.C_Bows dx fs) → Flds fs "bows" 0 → Q (.ref x) H') ∧ (w = 1 → H' x = some (.ins ca.C_Rooms dx fs) → Flds fs "rooms" 0 → Q (.ref x) H') ∧ (w = 2 → H' x = some (.ins ca.C_Floors dx fs) → Flds fs "floor" 0 → Q (.ref x) H') ∧ (w = 3 → H' x = some (.ins ca.C_Turns dx fs) → Flds fs "turns" 0 → Q (.ref x) H'))
noncomputable def sp__law_cell_at (K : PySem.W.Frag) (_ : ClA) : Sp := fun vs H Q _ => ∃ (a : Addr) (ns : List Int) (k : Int), vs = [.ref a, .int k] ∧ SqL K H a (ns.map V.int) ∧ 0 ≤ k ∧ Q (.int (ns.getD k.toNat 0)) H
noncomputable def sp__law_counts (K : PySem.W.Frag) (_ : ClA) : Sp := fun vs H Q _ => ∃ (k : Nat), vs = [.int (k : Int)] ∧ k ≤ 60 ∧ ∀ (p : Addr) (H' : Hp), Same H H' → H p = none → H' p = some (.lst (((List.range (k + 1)).map cR).map V.int)) → Q (.ref p) H'
noncomputable def sp_by_rule (_ : PySem.W.Frag) (_ : ClA) : Sp := fun vs H Q _ => ∃ n : Int, vs = [.int n] ∧ 0 ≤ n ∧ n ≤ 400 ∧ Q (.int (cR n.toNat)) H
noncomputable def sp_Turns__SplitFamily_unchecked_many (K : PySem.W.Frag) (_ : ClA) : Sp := fun vs H Q _ => ∃ (x : Addr) (n : Int), vs = [.ref x, .int n] ∧ 0 ≤ n ∧ n ≤ 40 ∧ Q (.int (cR n.toNat)) H
noncomputable def sp_Turns__Family_many (K : PySem.W.Frag) (ca : ClA) (er : Errs) : Sp := fun vs H Q E => ∃ (x dx : Addr) (fs : List (Str × V)) (wd : Str) (n : Int), vs = [.ref x, .int n] ∧ H x = some (.ins ca.C_Turns dx fs) ∧ Flds fs wd 0 ∧ (((n < 0 ∨ 40 < n) ∧ E (.ref er.size) none H) ∨ (0 ≤ n ∧ n ≤ 40 ∧ Q (.int (cR n.toNat)) H))
noncomputable def sp_Floors__SplitFamily_unchecked_many (K : PySem.W.Frag) (_ : ClA) : Sp := fun vs H Q _ => ∃ (x : Addr) (n : Int), vs = [.ref x, .int n] ∧ 0 ≤ n ∧ n ≤ 40 ∧ Q (.int (cR n.toNat)) H
noncomputable def sp_Floors__Family_many (K : PySem.W.Frag) (ca : ClA) (er : Errs) : Sp := fun vs H Q E => ∃ (x dx : Addr) (fs : List (Str × V)) (wd : Str) (n : Int), vs = [.ref x, .int n] ∧ H x = some (.ins ca.C_Floors dx fs) ∧ Flds fs wd 0 ∧ (((n < 0 ∨ 40 < n) ∧ E (.ref er.size) none H) ∨ (0 ≤ n ∧ n ≤ 40 ∧ Q (.int (cR n.toNat)) H))
noncomputable def sp_Rooms__SplitFamily_unchecked_many (K : PySem.W.Frag) (_ : ClA) : Sp := fun vs H Q _ => ∃ (x : Addr) (n : Int), vs = [.ref x, .int n] ∧ 0 ≤ n ∧ n ≤ 40 ∧ Q (.int (cR n.toNat)) H
noncomputable def sp_Rooms__Family_many (K : PySem.W.Frag) (ca : ClA) (er : Errs) : Sp := fun vs H Q E => ∃ (x dx : Addr) (fs : List (Str × V)) (wd : Str) (n : Int), vs = [.ref x, .int n] ∧ H x = some (.ins ca.C_Rooms dx fs) ∧ Flds fs wd 0 ∧ (((n < 0 ∨ 40 < n) ∧ E (.ref er.size) none H) ∨ (0 ≤ n ∧ n ≤ 40 ∧ Q (.int (cR n.toNat)) H))
noncomputable def sp_Bows__SplitFamily_unchecked_many (K : PySem.W.Frag) (_ : ClA) : Sp := fun vs H Q _ => ∃ (x : Addr) (n : Int), vs = [.ref x, .int n] ∧ 0 ≤ n ∧ n ≤ 40 ∧ Q (.int (cR n.toNat)) H
noncomputable def sp_Bows__Family_many (K : PySem.W.Frag) (ca : ClA) (er : Errs) : Sp := fun vs H Q E => ∃ (x dx : Addr) (fs : List (Str × V)) (wd : Str) (n : Int), vs = [.ref x, .int n] ∧ H x = some (.ins ca.C_Bows dx fs) ∧ Flds fs wd 0 ∧ (((n < 0 ∨ 40 < n) ∧ E (.ref er.size) none H) ∨ (0 ≤ n ∧ n ≤ 40 ∧ Q (.int (cR n.toNat)) H))
noncomputable def sp__law_classes (_ : PySem.W.Frag) (_ : ClA) (er : Errs) : Sp := fun vs H Q _ => ∃ (e c : Addr) (t : Str), vs = [.ref e] ∧ H e = some (excO e (.ref c)) ∧ ((c = er.size ∧ t = Str.ofString "size") ∨ (c = er.number ∧ t = Str.ofString "number")) ∧
  ∀ (p : Addr) (H' : Hp), Same H H' → H p = none → H' p = some (.lst [.str t]) → Q (.ref p) H'
noncomputable def sp__law_many_refused (K : PySem.W.Frag) (ca : ClA) (er : Errs) : Sp := fun vs H Q _ => ∃ (x dx : Addr) (fs : List (Str × V)) (wd : Str) (w : Nat) (n : Int), vs = [.ref x, .int n] ∧ w < 4 ∧ (w = 0 → H x = some (.ins ca.C_Bows dx fs)) ∧ (w = 1 → H x = some (.ins ca.C_Rooms dx fs)) ∧ (w = 2 → H x = some (.ins ca.C_Floors dx fs)) ∧ (w = 3 → H x = some (.ins ca.C_Turns dx fs)) ∧ Flds fs wd 0 ∧ (n < 0 ∨ 40 < n) ∧
  ∀ (p : Addr) (H' : Hp), Same H H' → H p = none → H' p = some (.lst [.str (Str.ofString "size")]) → Q (.ref p) H'
noncomputable def sp_Turns__bare (_ : PySem.W.Frag) (_ : ClA) : Sp := fun vs H Q _ => ∃ x, vs = [.ref x] ∧ ∀ (v : V) (H' : Hp), Same H H' → Th4 3 H' v 0 → Q v H'
noncomputable def sp_raised_by (K : PySem.W.Frag) (_ : ClA) : Sp := fun vs H Q _ => ∃ (l : Addr) (ns : List Int) (d : Int), vs = [.ref l, .int d] ∧ SqL K H l (ns.map V.int) ∧ ns.length ≤ 1000 ∧ ∀ (p : Addr) (H' : Hp), Same H H' → H p = none → H' p = some (.lst ((ns.map (· + d)).map V.int)) → Q (.ref p) H'
noncomputable def joinT (ps qs : List Int) : List Int := ps.map (· + 1) ++ [0] ++ qs.map (· + ((ps.length : Int) + 1))
theorem joinT_len (ps qs : List Int) : (joinT ps qs).length = ps.length + qs.length + 1 := by unfold joinT; simp; omega


noncomputable def sp_Turns__joined (K : PySem.W.Frag) (ca : ClA) : Sp := fun vs H Q _ => ∃ (x dx : Addr) (fs : List (Str × V)) (wd : Str) (vl vr : V) (i j : Nat), vs = [.ref x, vl, vr] ∧ H x = some (.ins ca.C_Turns dx fs) ∧ Flds fs wd 0 ∧ Th4 3 H vl i ∧ Th4 3 H vr j ∧ i + j ≤ 39 ∧ ∀ (v : V) (H' : Hp), Same H H' → Th4 3 H' v (i + j + 1) → Q v H'
noncomputable def sp_Turns__SplitFamily_thing_by_parts (K : PySem.W.Frag) (ca : ClA) (n : Nat) : Sp := fun vs H Q _ => ∃ (x dx : Addr) (fs : List (Str × V)) (wd : Str) (pc : Addr) (k : Nat) (m : Int), vs = [.ref x, .ref pc, .int (n : Int), .int m] ∧ H x = some (.ins ca.C_Turns dx fs) ∧ Flds fs wd 0 ∧ H pc = some (.lst ((shL k).map V.int)) ∧ n ≤ k ∧ k ≤ 40 ∧ 0 ≤ m ∧ m < sh n ∧ ∀ (v : V) (H' : Hp), Same H H' → Th4 3 H' v n → Q v H'
noncomputable def spA_Turns__SplitFamily_thing_by_parts (K : PySem.W.Frag) (ca : ClA) : Sp := below 41 (fun n => sp_Turns__SplitFamily_thing_by_parts K ca n)
noncomputable def sp_shares (_ : PySem.W.Frag) (_ : ClA) : Sp := fun vs H Q _ => ∃ n : Int, vs = [.int n] ∧ 0 ≤ n ∧ n ≤ 60 ∧ ∀ (p : Addr) (H' : Hp), Same H H' → H p = none → H' p = some (.lst ((shL n.toNat).map V.int)) → Q (.ref p) H'
noncomputable def sp_Turns__SplitFamily_unchecked_thing (K : PySem.W.Frag) (ca : ClA) : Sp := fun vs H Q _ => ∃ (x dx : Addr) (fs : List (Str × V)) (wd : Str) (n : Nat) (m : Int), vs = [.ref x, .int (n : Int), .int m] ∧ H x = some (.ins ca.C_Turns dx fs) ∧ Flds fs wd 0 ∧ n ≤ 40 ∧ 0 ≤ m ∧ m < sh n ∧ ∀ (v : V) (H' : Hp), Same H H' → Th4 3 H' v n → Q v H'
noncomputable def sp_Turns__Family_thing_of (K : PySem.W.Frag) (ca : ClA) (er : Errs) : Sp := fun vs H Q E => ∃ (x dx : Addr) (fs : List (Str × V)) (wd : Str) (n m : Int), vs = [.ref x, .int n, .int m] ∧ H x = some (.ins ca.C_Turns dx fs) ∧ Flds fs wd 0 ∧ (((n < 0 ∨ 40 < n) ∧ E (.ref er.size) none H) ∨
  (0 ≤ n ∧ n ≤ 40 ∧ (m < 0 ∨ cR n.toNat ≤ m) ∧ E (.ref er.number) none H) ∨
  (0 ≤ n ∧ n ≤ 40 ∧ 0 ≤ m ∧ m < cR n.toNat ∧ ∀ (v : V) (H' : Hp), Same H H' → Th4 3 H' v n.toNat → Q v H'))
noncomputable def sp_Floors__bare (_ : PySem.W.Frag) (_ : ClA) : Sp := fun vs H Q _ => ∃ x, vs = [.ref x] ∧ ∀ (v : V) (H' : Hp), Same H H' → Th4 2 H' v 0 → Q v H'
noncomputable def sp_pairs_raised_by (K : PySem.W.Frag) (_ : ClA) : Sp := fun vs H Q _ => ∃ (l : Addr) (ps : List Pair) (d : Int), vs = [.ref l, .int d] ∧ PLs H l ps ∧ ps.length ≤ 1000 ∧ ∀ (p : Addr) (H' : Hp), Same H H' → H p = none → PLs H' p (ps.map (up d)) → Q (.ref p) H'
noncomputable def sp_Floors__joined (K : PySem.W.Frag) (ca : ClA) : Sp := fun vs H Q _ => ∃ (x dx : Addr) (fs : List (Str × V)) (wd : Str) (vl vr : V) (i j : Nat), vs = [.ref x, vl, vr] ∧ H x = some (.ins ca.C_Floors dx fs) ∧ Flds fs wd 0 ∧ Th4 2 H vl i ∧ Th4 2 H vr j ∧ i + j ≤ 39 ∧ ∀ (v : V) (H' : Hp), Same H H' → Th4 2 H' v (i + j + 1) → Q v H'
noncomputable def sp_Floors__SplitFamily_thing_by_parts (K : PySem.W.Frag) (ca : ClA) (n : Nat) : Sp := fun vs H Q _ => ∃ (x dx : Addr) (fs : List (Str × V)) (wd : Str) (pc : Addr) (k : Nat) (m : Int), vs = [.ref x, .ref pc, .int (n : Int), .int m] ∧ H x = some (.ins ca.C_Floors dx fs) ∧ Flds fs wd 0 ∧ H pc = some (.lst ((shL k).map V.int)) ∧ n ≤ k ∧ k ≤ 40 ∧ 0 ≤ m ∧ m < sh n ∧ ∀ (v : V) (H' : Hp), Same H H' → Th4 2 H' v n → Q v H'
noncomputable def spA_Floors__SplitFamily_thing_by_parts (K : PySem.W.Frag) (ca : ClA) : Sp := below 41 (fun n => sp_Floors__SplitFamily_thing_by_parts K ca n)
noncomputable def sp_Floors__SplitFamily_unchecked_thing (K : PySem.W.Frag) (ca : ClA) : Sp := fun vs H Q _ => ∃ (x dx : Addr) (fs : List (Str × V)) (wd : Str) (n : Nat) (m : Int), vs = [.ref x, .int (n : Int), .int m] ∧ H x = some (.ins ca.C_Floors dx fs) ∧ Flds fs wd 0 ∧ n ≤ 40 ∧ 0 ≤ m ∧ m < sh n ∧ ∀ (v : V) (H' : Hp), Same H H' → Th4 2 H' v n → Q v H'
noncomputable def sp_Floors__Family_thing_of (K : PySem.W.Frag) (ca : ClA) (er : Errs) : Sp := fun vs H Q E => ∃ (x dx : Addr) (fs : List (Str × V)) (wd : Str) (n m : Int), vs = [.ref x, .int n, .int m] ∧ H x = some (.ins ca.C_Floors dx fs) ∧ Flds fs wd 0 ∧ (((n < 0 ∨ 40 < n) ∧ E (.ref er.size) none H) ∨
  (0 ≤ n ∧ n ≤ 40 ∧ (m < 0 ∨ cR n.toNat ≤ m) ∧ E (.ref er.number) none H) ∨
  (0 ≤ n ∧ n ≤ 40 ∧ 0 ≤ m ∧ m < cR n.toNat ∧ ∀ (v : V) (H' : Hp), Same H H' → Th4 2 H' v n.toNat → Q v H'))
noncomputable def sp_Rooms__bare (_ : PySem.W.Frag) (_ : ClA) : Sp := fun vs H Q _ => ∃ x, vs = [.ref x] ∧ ∀ (v : V) (H' : Hp), Same H H' → Th4 1 H' v 0 → Q v H'
noncomputable def sp_Rooms__size_of (K : PySem.W.Frag) (_ : ClA) : Sp := fun vs H Q _ => ∃ (x : Addr) (v : V) (i : Nat), vs = [.ref x, v] ∧ Th4 1 H v i ∧ i ≤ 40 ∧ ∀ H', Same H H' → Q (.int (i : Int)) H'
noncomputable def sp_Rooms__joined (K : PySem.W.Frag) (ca : ClA) : Sp := fun vs H Q _ => ∃ (x dx : Addr) (fs : List (Str × V)) (wd : Str) (vl vr : V) (i j : Nat), vs = [.ref x, vl, vr] ∧ H x = some (.ins ca.C_Rooms dx fs) ∧ Flds fs wd 0 ∧ Th4 1 H vl i ∧ Th4 1 H vr j ∧ i + j ≤ 39 ∧ ∀ (v : V) (H' : Hp), Same H H' → Th4 1 H' v (i + j + 1) → Q v H'
noncomputable def sp_Rooms__SplitFamily_thing_by_parts (K : PySem.W.Frag) (ca : ClA) (n : Nat) : Sp := fun vs H Q _ => ∃ (x dx : Addr) (fs : List (Str × V)) (wd : Str) (pc : Addr) (k : Nat) (m : Int), vs = [.ref x, .ref pc, .int (n : Int), .int m] ∧ H x = some (.ins ca.C_Rooms dx fs) ∧ Flds fs wd 0 ∧ H pc = some (.lst ((shL k).map V.int)) ∧ n ≤ k ∧ k ≤ 40 ∧ 0 ≤ m ∧ m < sh n ∧ ∀ (v : V) (H' : Hp), Same H H' → Th4 1 H' v n → Q v H'
noncomputable def spA_Rooms__SplitFamily_thing_by_parts (K : PySem.W.Frag) (ca : ClA) : Sp := below 41 (fun n => sp_Rooms__SplitFamily_thing_by_parts K ca n)
noncomputable def sp_Rooms__SplitFamily_unchecked_thing (K : PySem.W.Frag) (ca : ClA) : Sp := fun vs H Q _ => ∃ (x dx : Addr) (fs : List (Str × V)) (wd : Str) (n : Nat) (m : Int), vs = [.ref x, .int (n : Int), .int m] ∧ H x = some (.ins ca.C_Rooms dx fs) ∧ Flds fs wd 0 ∧ n ≤ 40 ∧ 0 ≤ m ∧ m < sh n ∧ ∀ (v : V) (H' : Hp), Same H H' → Th4 1 H' v n → Q v H'
noncomputable def sp_Rooms__Family_thing_of (K : PySem.W.Frag) (ca : ClA) (er : Errs) : Sp := fun vs H Q E => ∃ (x dx : Addr) (fs : List (Str × V)) (wd : Str) (n m : Int), vs = [.ref x, .int n, .int m] ∧ H x = some (.ins ca.C_Rooms dx fs) ∧ Flds fs wd 0 ∧ (((n < 0 ∨ 40 < n) ∧ E (.ref er.size) none H) ∨
  (0 ≤ n ∧ n ≤ 40 ∧ (m < 0 ∨ cR n.toNat ≤ m) ∧ E (.ref er.number) none H) ∨
  (0 ≤ n ∧ n ≤ 40 ∧ 0 ≤ m ∧ m < cR n.toNat ∧ ∀ (v : V) (H' : Hp), Same H H' → Th4 1 H' v n.toNat → Q v H'))
noncomputable def sp_Bows__bare (_ : PySem.W.Frag) (_ : ClA) : Sp := fun vs H Q _ => ∃ x, vs = [.ref x] ∧ ∀ (v : V) (H' : Hp), Same H H' → Th4 0 H' v 0 → Q v H'
noncomputable def sp_Bows__joined (K : PySem.W.Frag) (ca : ClA) : Sp := fun vs H Q _ => ∃ (x dx : Addr) (fs : List (Str × V)) (wd : Str) (vl vr : V) (i j : Nat), vs = [.ref x, vl, vr] ∧ H x = some (.ins ca.C_Bows dx fs) ∧ Flds fs wd 0 ∧ Th4 0 H vl i ∧ Th4 0 H vr j ∧ i + j ≤ 39 ∧ ∀ (v : V) (H' : Hp), Same H H' → Th4 0 H' v (i + j + 1) → Q v H'
noncomputable def sp_Bows__SplitFamily_thing_by_parts (K : PySem.W.Frag) (ca : ClA) (n : Nat) : Sp := fun vs H Q _ => ∃ (x dx : Addr) (fs : List (Str × V)) (wd : Str) (pc : Addr) (k : Nat) (m : Int), vs = [.ref x, .ref pc, .int (n : Int), .int m] ∧ H x = some (.ins ca.C_Bows dx fs) ∧ Flds fs wd 0 ∧ H pc = some (.lst ((shL k).map V.int)) ∧ n ≤ k ∧ k ≤ 40 ∧ 0 ≤ m ∧ m < sh n ∧ ∀ (v : V) (H' : Hp), Same H H' → Th4 0 H' v n → Q v H'
noncomputable def spA_Bows__SplitFamily_thing_by_parts (K : PySem.W.Frag) (ca : ClA) : Sp := below 41 (fun n => sp_Bows__SplitFamily_thing_by_parts K ca n)
noncomputable def sp_Bows__SplitFamily_unchecked_thing (K : PySem.W.Frag) (ca : ClA) : Sp := fun vs H Q _ => ∃ (x dx : Addr) (fs : List (Str × V)) (wd : Str) (n : Nat) (m : Int), vs = [.ref x, .int (n : Int), .int m] ∧ H x = some (.ins ca.C_Bows dx fs) ∧ Flds fs wd 0 ∧ n ≤ 40 ∧ 0 ≤ m ∧ m < sh n ∧ ∀ (v : V) (H' : Hp), Same H H' → Th4 0 H' v n → Q v H'
noncomputable def sp_Bows__Family_thing_of (K : PySem.W.Frag) (ca : ClA) (er : Errs) : Sp := fun vs H Q E => ∃ (x dx : Addr) (fs : List (Str × V)) (wd : Str) (n m : Int), vs = [.ref x, .int n, .int m] ∧ H x = some (.ins ca.C_Bows dx fs) ∧ Flds fs wd 0 ∧ (((n < 0 ∨ 40 < n) ∧ E (.ref er.size) none H) ∨
  (0 ≤ n ∧ n ≤ 40 ∧ (m < 0 ∨ cR n.toNat ≤ m) ∧ E (.ref er.number) none H) ∨
  (0 ≤ n ∧ n ≤ 40 ∧ 0 ≤ m ∧ m < cR n.toNat ∧ ∀ (v : V) (H' : Hp), Same H H' → Th4 0 H' v n.toNat → Q v H'))
noncomputable def sp__law_thing_refused (K : PySem.W.Frag) (ca : ClA) (er : Errs) : Sp := fun vs H Q _ => ∃ (x dx : Addr) (fs : List (Str × V)) (wd : Str) (w : Nat) (n m : Int) (t : Str), vs = [.ref x, .int n, .int m] ∧ w < 4 ∧ (w = 0 → H x = some (.ins ca.C_Bows dx fs)) ∧ (w = 1 → H x = some (.ins ca.C_Rooms dx fs)) ∧ (w = 2 → H x = some (.ins ca.C_Floors dx fs)) ∧ (w = 3 → H x = some (.ins ca.C_Turns dx fs)) ∧ Flds fs wd 0 ∧ (((n < 0 ∨ 40 < n) ∧ t = Str.ofString "size") ∨ (0 ≤ n ∧ n ≤ 40 ∧ (m < 0 ∨ cR n.toNat ≤ m) ∧ t = Str.ofString "number")) ∧
  ∀ (p : Addr) (H' : Hp), Same H H' → H p = none → H' p = some (.lst [.str t]) → Q (.ref p) H'
noncomputable def sp_Bows__size_of (K : PySem.W.Frag) (_ : ClA) : Sp := fun vs H Q _ => ∃ (x : Addr) (v : V) (i : Nat), vs = [.ref x, v] ∧ Th4 0 H v i ∧ i ≤ 40 ∧ ∀ H', Same H H' → Q (.int (i : Int)) H'
noncomputable def sp_Floors__size_of (K : PySem.W.Frag) (_ : ClA) : Sp := fun vs H Q _ => ∃ (x : Addr) (v : V) (i : Nat), vs = [.ref x, v] ∧ Th4 2 H v i ∧ i ≤ 40 ∧ ∀ H', Same H H' → Q (.int (i : Int)) H'
noncomputable def sp_Turns__size_of (K : PySem.W.Frag) (_ : ClA) : Sp := fun vs H Q _ => ∃ (x : Addr) (v : V) (i : Nat), vs = [.ref x, v] ∧ Th4 3 H v i ∧ i ≤ 40 ∧ ∀ H', Same H H' → Q (.int (i : Int)) H'
noncomputable def sp_law (K : PySem.W.Frag) (_ : ClA) (_ : Errs) : Sp := fun vs H Q _ => ∃ (a : Addr) (ns : List Int), vs = [.ref a] ∧ SqL K H a (ns.map V.int) ∧ ns.length ≤ 63 ∧ ∀ H', Q (.bl true) H'
section
variable {P : Program} {w : World} {K : PySem.W.Frag} {mg : Str → Option Value} {base : Heap}
theorem ok_Bows__Family___init__ {er : Errs} (EO : ErrOk K mg er) {ca : ClA} (CA : ClOk K mg ca) {fd : FuncData} (F : Fun K "__init__" "Family.__init__" s_Bows__Family___init__ ca.f_Bows__Family___init__ fd) : FnOk P w K mg base CX0 1 ca.f_Bows__Family___init__ fd ["self", "word", "least"] (sp_Bows__Family___init__ K ca) := by
  refine F.ok sc_Bows__Family___init__ (fun vs H Q E h => ?_) (fun cdv A outer s H vs Q E hr h => ?_)
  · obtain ⟨x, dx, w, l, rfl, hx, q⟩ := h
    rfl
  obtain ⟨x, dx, w, l, rfl, hx, q⟩ := h
  refine ⟨_, pss_cons (ps_fld (pv 0) (pv 1) rfl)
    (pss_one (ps_fld (pv 0) (pv 2) rfl)), ?_⟩
  refine ⟨_, rfl, _, rfl, x, ca.C_Bows, dx, _, rfl, hx, CA.c_Bows, CA.na_Bows_word, (by show 0 < 1000; decide), ?_⟩
  refine ⟨_, rfl, _, rfl, x, ca.C_Bows, dx, _, rfl, upd_same, CA.c_Bows, CA.na_Bows_least, (by show 1 < 1000; decide), ?_⟩
  exact q _ _ upd_upd (flds_mk w l)
theorem ok_Bows__SplitFamily___init__ {er : Errs} (EO : ErrOk K mg er) {ca : ClA} (CA : ClOk K mg ca) {fd : FuncData} (F : Fun K "__init__" "SplitFamily.__init__" s_Bows__SplitFamily___init__ ca.f_Bows__SplitFamily___init__ fd) {fd0 : FuncData} (d_Bows__Family___init__ : MDef P w K mg base ["self", "word", "least"] 1 (sp_Bows__Family___init__ K ca) ca.f_Bows__Family___init__ fd0) : FnOk P w K mg base CX0 3 ca.f_Bows__SplitFamily___init__ fd ["self", "word"] (sp_Bows__SplitFamily___init__ K ca) := by
  refine F.ok sc_Bows__SplitFamily___init__ (fun vs H Q E h => ?_) (fun cdv A outer s H vs Q E hr h => ?_)
  · obtain ⟨x, dx, w, rfl, hx, q⟩ := h
    rfl
  obtain ⟨x, dx, w, rfl, hx, q⟩ := h
  refine ⟨_, pss_one (ps_expr (pcls CA.m_Family CA.cm_Family___init___Bows d_Bows__Family___init__ hr (pa_cons (pv 0) (pa_cons (pv 1) (pa_cons pe_int pa_nil))))), ?_⟩
  exact ⟨_, rfl, _, rfl, x, dx, w, 0, rfl, hx, fun fs H' e f => q fs H' e f⟩
theorem ok_Bows____init__ {er : Errs} (EO : ErrOk K mg er) {ca : ClA} (CA : ClOk K mg ca) {fd : FuncData} (F : Fun K "__init__" "Bows.__init__" s_Bows____init__ ca.f_Bows____init__ fd) {fd0 : FuncData} (d_Bows__SplitFamily___init__ : MDef P w K mg base ["self", "word"] 3 (sp_Bows__SplitFamily___init__ K ca) ca.f_Bows__SplitFamily___init__ fd0) : FnOk P w K mg base CX0 5 ca.f_Bows____init__ fd ["self"] (sp_Bows____init__ K ca) := by
  refine F.ok sc_Bows____init__ (fun vs H Q E h => ?_) (fun cdv A outer s H vs Q E hr h => ?_)
  · obtain ⟨x, dx, rfl, hx, q⟩ := h
    rfl
  obtain ⟨x, dx, rfl, hx, q⟩ := h
  refine ⟨_, pss_one (ps_expr (pcls CA.m_SplitFamily CA.cm_SplitFamily___init___Bows d_Bows__SplitFamily___init__ hr (pa_cons (pv 0) (pa_cons pe_str pa_nil)))), ?_⟩
  exact ⟨_, rfl, x, dx, _, rfl, hx, fun fs H' e f => q fs H' e f⟩
theorem ok_Rooms__Family___init__ {er : Errs} (EO : ErrOk K mg er) {ca : ClA} (CA : ClOk K mg ca) {fd : FuncData} (F : Fun K "__init__" "Family.__init__" s_Rooms__Family___init__ ca.f_Rooms__Family___init__ fd) : FnOk P w K mg base CX0 1 ca.f_Rooms__Family___init__ fd ["self", "word", "least"] (sp_Rooms__Family___init__ K ca) := by
  refine F.ok sc_Rooms__Family___init__ (fun vs H Q E h => ?_) (fun cdv A outer s H vs Q E hr h => ?_)
  · obtain ⟨x, dx, w, l, rfl, hx, q⟩ := h
    rfl
  obtain ⟨x, dx, w, l, rfl, hx, q⟩ := h
  refine ⟨_, pss_cons (ps_fld (pv 0) (pv 1) rfl)
    (pss_one (ps_fld (pv 0) (pv 2) rfl)), ?_⟩
  refine ⟨_, rfl, _, rfl, x, ca.C_Rooms, dx, _, rfl, hx, CA.c_Rooms, CA.na_Rooms_word, (by show 0 < 1000; decide), ?_⟩
  refine ⟨_, rfl, _, rfl, x, ca.C_Rooms, dx, _, rfl, upd_same, CA.c_Rooms, CA.na_Rooms_least, (by show 1 < 1000; decide), ?_⟩
  exact q _ _ upd_upd (flds_mk w l)
theorem ok_Rooms__SplitFamily___init__ {er : Errs} (EO : ErrOk K mg er) {ca : ClA} (CA : ClOk K mg ca) {fd : FuncData} (F : Fun K "__init__" "SplitFamily.__init__" s_Rooms__SplitFamily___init__ ca.f_Rooms__SplitFamily___init__ fd) {fd0 : FuncData} (d_Rooms__Family___init__ : MDef P w K mg base ["self", "word", "least"] 1 (sp_Rooms__Family___init__ K ca) ca.f_Rooms__Family___init__ fd0) : FnOk P w K mg base CX0 3 ca.f_Rooms__SplitFamily___init__ fd ["self", "word"] (sp_Rooms__SplitFamily___init__ K ca) := by
  refine F.ok sc_Rooms__SplitFamily___init__ (fun vs H Q E h => ?_) (fun cdv A outer s H vs Q E hr h => ?_)
  · obtain ⟨x, dx, w, rfl, hx, q⟩ := h
    rfl
  obtain ⟨x, dx, w, rfl, hx, q⟩ := h
  refine ⟨_, pss_one (ps_expr (pcls CA.m_Family CA.cm_Family___init___Rooms d_Rooms__Family___init__ hr (pa_cons (pv 0) (pa_cons (pv 1) (pa_cons pe_int pa_nil))))), ?_⟩
  exact ⟨_, rfl, _, rfl, x, dx, w, 0, rfl, hx, fun fs H' e f => q fs H' e f⟩
theorem ok_Rooms____init__ {er : Errs} (EO : ErrOk K mg er) {ca : ClA} (CA : ClOk K mg ca) {fd : FuncData} (F : Fun K "__init__" "Rooms.__init__" s_Rooms____init__ ca.f_Rooms____init__ fd) {fd0 : FuncData} (d_Rooms__SplitFamily___init__ : MDef P w K mg base ["self", "word"] 3 (sp_Rooms__SplitFamily___init__ K ca) ca.f_Rooms__SplitFamily___init__ fd0) : FnOk P w K mg base CX0 5 ca.f_Rooms____init__ fd ["self"] (sp_Rooms____init__ K ca) := by
  refine F.ok sc_Rooms____init__ (fun vs H Q E h => ?_) (fun cdv A outer s H vs Q E hr h => ?_)
  · obtain ⟨x, dx, rfl, hx, q⟩ := h
    rfl
  obtain ⟨x, dx, rfl, hx, q⟩ := h
  refine ⟨_, pss_one (ps_expr (pcls CA.m_SplitFamily CA.cm_SplitFamily___init___Rooms d_Rooms__SplitFamily___init__ hr (pa_cons (pv 0) (pa_cons pe_str pa_nil)))), ?_⟩
  exact ⟨_, rfl, x, dx, _, rfl, hx, fun fs H' e f => q fs H' e f⟩
theorem ok_Floors__Family___init__ {er : Errs} (EO : ErrOk K mg er) {ca : ClA} (CA : ClOk K mg ca) {fd : FuncData} (F : Fun K "__init__" "Family.__init__" s_Floors__Family___init__ ca.f_Floors__Family___init__ fd) : FnOk P w K mg base CX0 1 ca.f_Floors__Family___init__ fd ["self", "word", "least"] (sp_Floors__Family___init__ K ca) := by
  refine F.ok sc_Floors__Family___init__ (fun vs H Q E h => ?_) (fun cdv A outer s H vs Q E hr h => ?_)
  · obtain ⟨x, dx, w, l, rfl, hx, q⟩ := h
    rfl
  obtain ⟨x, dx, w, l, rfl, hx, q⟩ := h
  refine ⟨_, pss_cons (ps_fld (pv 0) (pv 1) rfl)
    (pss_one (ps_fld (pv 0) (pv 2) rfl)), ?_⟩
  refine ⟨_, rfl, _, rfl, x, ca.C_Floors, dx, _, rfl, hx, CA.c_Floors, CA.na_Floors_word, (by show 0 < 1000; decide), ?_⟩
  refine ⟨_, rfl, _, rfl, x, ca.C_Floors, dx, _, rfl, upd_same, CA.c_Floors, CA.na_Floors_least, (by show 1 < 1000; decide), ?_⟩
  exact q _ _ upd_upd (flds_mk w l)
theorem ok_Floors__SplitFamily___init__ {er : Errs} (EO : ErrOk K mg er) {ca : ClA} (CA : ClOk K mg ca) {fd : FuncData} (F : Fun K "__init__" "SplitFamily.__init__" s_Floors__SplitFamily___init__ ca.f_Floors__SplitFamily___init__ fd) {fd0 : FuncData} (d_Floors__Family___init__ : MDef P w K mg base ["self", "word", "least"] 1 (sp_Floors__Family___init__ K ca) ca.f_Floors__Family___init__ fd0) : FnOk P w K mg base CX0 3 ca.f_Floors__SplitFamily___init__ fd ["self", "word"] (sp_Floors__SplitFamily___init__ K ca) := by
  refine F.ok sc_Floors__SplitFamily___init__ (fun vs H Q E h => ?_) (fun cdv A outer s H vs Q E hr h => ?_)
  · obtain ⟨x, dx, w, rfl, hx, q⟩ := h
    rfl
  obtain ⟨x, dx, w, rfl, hx, q⟩ := h
  refine ⟨_, pss_one (ps_expr (pcls CA.m_Family CA.cm_Family___init___Floors d_Floors__Family___init__ hr (pa_cons (pv 0) (pa_cons (pv 1) (pa_cons pe_int pa_nil))))), ?_⟩
  exact ⟨_, rfl, _, rfl, x, dx, w, 0, rfl, hx, fun fs H' e f => q fs H' e f⟩
theorem ok_Floors____init__ {er : Errs} (EO : ErrOk K mg er) {ca : ClA} (CA : ClOk K mg ca) {fd : FuncData} (F : Fun K "__init__" "Floors.__init__" s_Floors____init__ ca.f_Floors____init__ fd) {fd0 : FuncData} (d_Floors__SplitFamily___init__ : MDef P w K mg base ["self", "word"] 3 (sp_Floors__SplitFamily___init__ K ca) ca.f_Floors__SplitFamily___init__ fd0) : FnOk P w K mg base CX0 5 ca.f_Floors____init__ fd ["self"] (sp_Floors____init__ K ca) := by
  refine F.ok sc_Floors____init__ (fun vs H Q E h => ?_) (fun cdv A outer s H vs Q E hr h => ?_)
  · obtain ⟨x, dx, rfl, hx, q⟩ := h
    rfl
  obtain ⟨x, dx, rfl, hx, q⟩ := h
  refine ⟨_, pss_one (ps_expr (pcls CA.m_SplitFamily CA.cm_SplitFamily___init___Floors d_Floors__SplitFamily___init__ hr (pa_cons (pv 0) (pa_cons pe_str pa_nil)))), ?_⟩
  exact ⟨_, rfl, x, dx, _, rfl, hx, fun fs H' e f => q fs H' e f⟩
theorem ok_Turns__Family___init__ {er : Errs} (EO : ErrOk K mg er) {ca : ClA} (CA : ClOk K mg ca) {fd : FuncData} (F : Fun K "__init__" "Family.__init__" s_Turns__Family___init__ ca.f_Turns__Family___init__ fd) : FnOk P w K mg base CX0 1 ca.f_Turns__Family___init__ fd ["self", "word", "least"] (sp_Turns__Family___init__ K ca) := by
  refine F.ok sc_Turns__Family___init__ (fun vs H Q E h => ?_) (fun cdv A outer s H vs Q E hr h => ?_)
  · obtain ⟨x, dx, w, l, rfl, hx, q⟩ := h
    rfl
  obtain ⟨x, dx, w, l, rfl, hx, q⟩ := h
  refine ⟨_, pss_cons (ps_fld (pv 0) (pv 1) rfl)
    (pss_one (ps_fld (pv 0) (pv 2) rfl)), ?_⟩
  refine ⟨_, rfl, _, rfl, x, ca.C_Turns, dx, _, rfl, hx, CA.c_Turns, CA.na_Turns_word, (by show 0 < 1000; decide), ?_⟩
  refine ⟨_, rfl, _, rfl, x, ca.C_Turns, dx, _, rfl, upd_same, CA.c_Turns, CA.na_Turns_least, (by show 1 < 1000; decide), ?_⟩
  exact q _ _ upd_upd (flds_mk w l)
theorem ok_Turns__SplitFamily___init__ {er : Errs} (EO : ErrOk K mg er) {ca : ClA} (CA : ClOk K mg ca) {fd : FuncData} (F : Fun K "__init__" "SplitFamily.__init__" s_Turns__SplitFamily___init__ ca.f_Turns__SplitFamily___init__ fd) {fd0 : FuncData} (d_Turns__Family___init__ : MDef P w K mg base ["self", "word", "least"] 1 (sp_Turns__Family___init__ K ca) ca.f_Turns__Family___init__ fd0) : FnOk P w K mg base CX0 3 ca.f_Turns__SplitFamily___init__ fd ["self", "word"] (sp_Turns__SplitFamily___init__ K ca) := by
  refine F.ok sc_Turns__SplitFamily___init__ (fun vs H Q E h => ?_) (fun cdv A outer s H vs Q E hr h => ?_)
  · obtain ⟨x, dx, w, rfl, hx, q⟩ := h
    rfl
  obtain ⟨x, dx, w, rfl, hx, q⟩ := h
  refine ⟨_, pss_one (ps_expr (pcls CA.m_Family CA.cm_Family___init___Turns d_Turns__Family___init__ hr (pa_cons (pv 0) (pa_cons (pv 1) (pa_cons pe_int pa_nil))))), ?_⟩
  exact ⟨_, rfl, _, rfl, x, dx, w, 0, rfl, hx, fun fs H' e f => q fs H' e f⟩
theorem ok_Turns____init__ {er : Errs} (EO : ErrOk K mg er) {ca : ClA} (CA : ClOk K mg ca) {fd : FuncData} (F : Fun K "__init__" "Turns.__init__" s_Turns____init__ ca.f_Turns____init__ fd) {fd0 : FuncData} (d_Turns__SplitFamily___init__ : MDef P w K mg base ["self", "word"] 3 (sp_Turns__SplitFamily___init__ K ca) ca.f_Turns__SplitFamily___init__ fd0) : FnOk P w K mg base CX0 5 ca.f_Turns____init__ fd ["self"] (sp_Turns____init__ K ca) := by
  refine F.ok sc_Turns____init__ (fun vs H Q E h => ?_) (fun cdv A outer s H vs Q E hr h => ?_)
  · obtain ⟨x, dx, rfl, hx, q⟩ := h
    rfl
  obtain ⟨x, dx, rfl, hx, q⟩ := h
  refine ⟨_, pss_one (ps_expr (pcls CA.m_SplitFamily CA.cm_SplitFamily___init___Turns d_Turns__SplitFamily___init__ hr (pa_cons (pv 0) (pa_cons pe_str pa_nil)))), ?_⟩
  exact ⟨_, rfl, x, dx, _, rfl, hx, fun fs H' e f => q fs H' e f⟩
theorem ok__law_kin {er : Errs} (EO : ErrOk K mg er) {ca : ClA} (CA : ClOk K mg ca) {f : Addr} {fd : FuncData} (F : Fun K "_law_kin" "_law_kin" s__law_kin f fd) {fd0 : FuncData} (d_Bows____init__ : MDef P w K mg base ["self"] 5 (sp_Bows____init__ K ca) ca.f_Bows____init__ fd0) {fd1 : FuncData} (d_Rooms____init__ : MDef P w K mg base ["self"] 5 (sp_Rooms____init__ K ca) ca.f_Rooms____init__ fd1) {fd2 : FuncData} (d_Floors____init__ : MDef P w K mg base ["self"] 5 (sp_Floors____init__ K ca) ca.f_Floors____init__ fd2) {fd3 : FuncData} (d_Turns____init__ : MDef P w K mg base ["self"] 5 (sp_Turns____init__ K ca) ca.f_Turns____init__ fd3) : FnOk P w K mg base CX0 7 f fd ["_law_word"] (sp__law_kin K ca) := by
  refine F.ok sc__law_kin (fun vs H Q E h => ?_) (fun cdv A outer s H vs Q E hr h => ?_)
  · obtain ⟨w, rfl, w0, w3, q⟩ := h
    rfl
  obtain ⟨w, rfl, w0, w3, q⟩ := h
  refine ⟨_, pss_cons (ps_if (pt_cmpR op_eq (pv 0) pe_int (nomark _)) (pss_one (ps_ret (pmake0 CA.mk_Bows CA.m_Bows d_Bows____init__ hr))) pss_nil)
    (pss_cons (ps_if (pt_cmpR op_eq (pv 0) pe_int (nomark _)) (pss_one (ps_ret (pmake0 CA.mk_Rooms CA.m_Rooms d_Rooms____init__ hr))) pss_nil)
    (pss_cons (ps_if (pt_cmpR op_eq (pv 0) pe_int (nomark _)) (pss_one (ps_ret (pmake0 CA.mk_Floors CA.m_Floors d_Floors____init__ hr))) pss_nil)
    (pss_one (ps_ret (pmake0 CA.mk_Turns CA.m_Turns d_Turns____init__ hr))))), ?_⟩
  refine ⟨_, rfl, rfl, _, rfl, ?_⟩
  by_cases h0 : w = 0
  · refine iteP (congrArg V.int h0) ?_
    intro x dx nx ndx nex
    refine ⟨x, dx, rfl, upd_same, fun fsx Hx1 ex fx => ⟨rfl, ?_⟩⟩
    have sx : Same H Hx1 := by rw [ex]; exact ((Same.new (Same.refl H) ndx _).upd nx _).upd nx _
    have hx : Hx1 x = some (.ins ca.C_Bows dx fsx) := by rw [ex]; exact upd_same

    exact (q x dx fsx Hx1 sx).1 h0 hx fx
  refine iteN (fun z => h0 (by injection z)) ⟨_, rfl, rfl, _, rfl, ?_⟩
  by_cases h1 : w = 1
  · refine iteP (congrArg V.int h1) ?_
    intro x dx nx ndx nex
    refine ⟨x, dx, rfl, upd_same, fun fsx Hx1 ex fx => ⟨rfl, ?_⟩⟩
    have sx : Same H Hx1 := by rw [ex]; exact ((Same.new (Same.refl H) ndx _).upd nx _).upd nx _
    have hx : Hx1 x = some (.ins ca.C_Rooms dx fsx) := by rw [ex]; exact upd_same

    exact (q x dx fsx Hx1 sx).2.1 h1 hx fx
  refine iteN (fun z => h1 (by injection z)) ⟨_, rfl, rfl, _, rfl, ?_⟩
  by_cases h2 : w = 2
  · refine iteP (congrArg V.int h2) ?_
    intro x dx nx ndx nex
    refine ⟨x, dx, rfl, upd_same, fun fsx Hx1 ex fx => ⟨rfl, ?_⟩⟩
    have sx : Same H Hx1 := by rw [ex]; exact ((Same.new (Same.refl H) ndx _).upd nx _).upd nx _
    have hx : Hx1 x = some (.ins ca.C_Floors dx fsx) := by rw [ex]; exact upd_same

    exact (q x dx fsx Hx1 sx).2.2.1 h2 hx fx
  refine iteN (fun z => h2 (by injection z)) ?_
  intro x dx nx ndx nex
  refine ⟨x, dx, rfl, upd_same, fun fsx Hx1 ex fx => ⟨rfl, ?_⟩⟩
  have sx : Same H Hx1 := by rw [ex]; exact ((Same.new (Same.refl H) ndx _).upd nx _).upd nx _
  have hx : Hx1 x = some (.ins ca.C_Turns dx fsx) := by rw [ex]; exact upd_same

  exact (q x dx fsx Hx1 sx).2.2.2 (by omega) hx fx
theorem ok__law_cell_at {er : Errs} (EO : ErrOk K mg er) {ca : ClA} (CA : ClOk K mg ca) {f : Addr} {fd : FuncData} (F : Fun K "_law_cell_at" "_law_cell_at" s__law_cell_at f fd) (m_len : mg "len" = none) : FnOk P w K mg base CX0 1 f fd ["_law_script", "_law_k"] (sp__law_cell_at K ca) := by
  refine F.ok sc__law_cell_at (fun vs H Q E h => ?_) (fun cdv A outer s H vs Q E hr h => ?_)
  · obtain ⟨a, ns, k, rfl, hS, h0, q⟩ := h
    rfl
  obtain ⟨a, ns, k, rfl, hS, h0, q⟩ := h
  refine ⟨_, pss_cons (ps_if (pt_cmpR op_lt (pv 1) (pe_callB call_len_seq rfl m_len bb_len (pa_cons (pv 0) pa_nil)) (nomark _)) (pss_one (ps_ret (pe_ix ix_list (pv 0) (pv 1) (fun _ _ => rfl)))) pss_nil)
    (pss_one (ps_ret pe_int)), ?_⟩
  have hl : (ns.map V.int).length = ns.length := List.length_map _
  refine ⟨_, rfl, _, rfl, a, _, rfl, .inl hS, _, _, rfl, rfl, _, rfl, ite2 (fun c => ?_) (fun c => ?_)⟩
  · have c' : k < (((ns.map V.int).length : Nat) : Int) := of_decide_eq_true c
    rw [hl] at c'
    exact ⟨_, rfl, _, rfl, a, _, _, _, rfl, rfl, hS, atI_int h0 c', q⟩
  · have c' : ¬ k < (((ns.map V.int).length : Nat) : Int) := of_decide_eq_false (Bool.eq_false_iff.mpr c)
    rw [hl] at c'
    have e : ns.getD k.toNat 0 = 0 := by rw [List.getD_eq_getElem?_getD, List.getElem?_eq_none (by omega)]; rfl
    rw [e] at q
    exact q
theorem ok__law_counts {er : Errs} (EO : ErrOk K mg er) {ca : ClA} (CA : ClOk K mg ca) {f : Addr} {fd : FuncData} (F : Fun K "_law_counts" "_law_counts" s__law_counts f fd) (m_range : mg "range" = none) : FnOk P w K mg base CX0 1 f fd ["_law_most"] (sp__law_counts K ca) := by
  refine F.ok sc__law_counts (fun vs H Q E h => ?_) (fun cdv A outer s H vs Q E hr h => ?_)
  · obtain ⟨k, rfl, hk, q⟩ := h
    rfl
  obtain ⟨k, rfl, hk, q⟩ := h
  refine ⟨_, pss_cons (ps_set (i := 1) sc__law_counts.nd rfl (Or.inl rfl) (pe_lst (pa_cons pe_int pa_nil)))
    (pss_cons (ps_for PassesOwn.never rfl (pi_range1 rfl m_range (pa_cons (pv 0) pa_nil)) (pg_name (i := 2) sc__law_counts.nd rfl (Or.inl rfl)) (pss_one (ps_expr (pe_bm PySem.F.plainAttrs_list PySem.F.slot_list_append PySem.F.type_list_append mt_append (pv 1) (pa_cons (pe_op op_fdivL (pe_op op_mul (pe_ix ix_list (pv 1) (pv 2) (fun _ _ => rfl)) (pe_op op_add (pe_op op_mul pe_int (pv 2)) pe_int)) (pe_op op_add (pv 2) pe_int)) pa_nil)))))
    (pss_one (ps_ret (pv 1)))), ?_⟩
  refine ⟨(by show 1 ≤ sizeLine; decide), fun p hp => ?_⟩
  refine ⟨_, rfl, (k : Int), rfl, by omega, by omega, for_range (lo := 0) (n := ((k : Int)).toNat) (fun i σ H' => ∃ o, σ = [some (.int (k : Int)), some (.ref p), o] ∧ Same H H' ∧ H' p = some (.lst (((List.range (i + 1)).map cR).map V.int))) ⟨_, rfl, Same.new (Same.refl H) hp _, upd_same⟩ ?_ ?_⟩
  · rintro i σ H1 hi ⟨o, rfl, sm, hp1⟩
    have l1 : ((List.range (i + 1)).map cR).length = i + 1 := by simp
    have a1 := atI_int (ns := (List.range (i + 1)).map cR) (i := (0 : Int) + (i : Int)) (by omega) (by omega)
    have e1 : ((List.range (i + 1)).map cR).getD ((0 : Int) + (i : Int)).toNat 0 = cR i := by
      rw [show ((0 : Int) + (i : Int)).toNat = i by omega, List.getD_eq_getElem?_getD]
      simp
    rw [e1] at a1
    refine ⟨_, rfl, .inl ⟨rfl, _, SqL.of hp1⟩, _, rfl, _, rfl, p, _, _, _, rfl, rfl, SqL.of hp1, a1, _, rfl, _, _, rfl, rfl, .inl ⟨by decide, by decide⟩, _, _, rfl, rfl, _, _, rfl, rfl, .inr ⟨by omega, by omega⟩, _, rfl, _, _, rfl, rfl, _, _, rfl, rfl, ⟨by omega, Nat.lt_of_le_of_lt (Nat.log2_le_self _) (by omega)⟩, p, _, _, rfl, rfl, hp1, by rw [List.length_map, l1]; exact sz' (by omega), ?_⟩
    refine ⟨_, rfl, sm.upd hp _, ?_⟩
    have e : (List.range (i + 1 + 1)).map cR = (List.range (i + 1)).map cR ++ [cR (i + 1)] := by rw [List.range_succ, List.map_append]; rfl
    rw [upd_same, e, List.map_append]
    show some (HO.lst (_ ++ [V.int (cR i * (4 * (0 + (i : Int)) + 2) / (0 + (i : Int) + 2))])) = some (HO.lst (_ ++ [V.int (cR (i + 1))]))
    rw [Int.zero_add]
    rfl
  · rintro σ H1 ⟨o, rfl, sm, hp1⟩
    rw [Int.toNat_natCast] at hp1
    exact ⟨_, rfl, q p H1 sm hp hp1⟩
theorem ok_by_rule {er : Errs} (EO : ErrOk K mg er) {ca : ClA} (CA : ClOk K mg ca) {f : Addr} {fd : FuncData} (F : Fun K "by_rule" "by_rule" s_by_rule f fd) (m_range : mg "range" = none) : FnOk P w K mg base CX0 1 f fd ["size"] (sp_by_rule K ca) := by
  refine F.ok sc_by_rule (fun vs H Q E h => ?_) (fun cdv A outer s H vs Q E hr h => ?_)
  · obtain ⟨n, rfl, h0, h1, q⟩ := h
    rfl
  obtain ⟨n, rfl, h0, h1, q⟩ := h
  refine ⟨_, pss_cons (ps_set (i := 1) sc_by_rule.nd rfl (Or.inl rfl) pe_int)
    (pss_cons (ps_for PassesOwn.never rfl (pi_range1 rfl m_range (pa_cons (pv 0) pa_nil)) (pg_name (i := 2) sc_by_rule.nd rfl (Or.inl rfl)) (pss_one (ps_set (i := 1) sc_by_rule.nd rfl (Or.inl rfl) (pe_op op_fdivL (pe_op op_mul (pv 1) (pe_op op_add (pe_op op_mul pe_int (pv 2)) pe_int)) (pe_op op_add (pv 2) pe_int)))))
    (pss_one (ps_ret (pv 1)))), ?_⟩
  refine ⟨_, rfl, _, rfl, by omega, by omega, for_range (lo := 0) (n := n.toNat) (fun i σ H' => H' = H ∧ ∃ o, σ = [some (.int n), some (.int (cR i)), o]) ⟨rfl, _, rfl⟩ ?_ ?_⟩
  · rintro i σ H' hi ⟨rfl, o, rfl⟩
    refine ⟨_, rfl, _, rfl, _, _, rfl, rfl, .inl ⟨by decide, by decide⟩, _, _, rfl, rfl, _, _, rfl, rfl, .inr ⟨by omega, by omega⟩, _, rfl, _, _, rfl, rfl, _, _, rfl, rfl, ⟨by omega, ?_⟩, rfl, some (.int ((0 : Int) + (i : Int))), ?_⟩
    · exact log2_small (by omega) (by omega)
    · have e : (0 : Int) + (i : Int) = i := Int.zero_add _
      show [some (V.int n), some (V.int (cR i * (4 * ((0 : Int) + (i : Int)) + 2) / (((0 : Int) + (i : Int)) + 2))), some (V.int ((0 : Int) + (i : Int)))] = _
      rw [e]
      try rfl
  · rintro σ H' ⟨rfl, o, rfl⟩
    exact ⟨_, rfl, q⟩
theorem ok_Turns__SplitFamily_unchecked_many {er : Errs} (EO : ErrOk K mg er) {ca : ClA} (CA : ClOk K mg ca) {fd : FuncData} (F : Fun K "unchecked_many" "SplitFamily.unchecked_many" s_Turns__SplitFamily_unchecked_many ca.f_Turns__SplitFamily_unchecked_many fd) {f0 : Addr} {fd0 : FuncData} (d_by_rule : Def P w K mg base "by_rule" ["size"] 1 (sp_by_rule K ca) f0 fd0) : FnOk P w K mg base CX0 2 ca.f_Turns__SplitFamily_unchecked_many fd ["self", "size"] (sp_Turns__SplitFamily_unchecked_many K ca) := by
  refine F.ok sc_Turns__SplitFamily_unchecked_many (fun vs H Q E h => ?_) (fun cdv A outer s H vs Q E hr h => ?_)
  · obtain ⟨x, n, rfl, n0, n40, q⟩ := h
    rfl
  obtain ⟨x, n, rfl, n0, n40, q⟩ := h
  refine ⟨_, pss_one (ps_ret (pcall d_by_rule hr (pa_cons (pv 1) pa_nil))), ?_⟩
  exact ⟨_, rfl, n, rfl, n0, by omega, q⟩
theorem ok_Turns__Family_many {er : Errs} (EO : ErrOk K mg er) {ca : ClA} (CA : ClOk K mg ca) {fd : FuncData} (F : Fun K "many" "Family.many" s_Turns__Family_many ca.f_Turns__Family_many fd) {fd0 : FuncData} (d_Turns__SplitFamily_unchecked_many : MDef P w K mg base ["self", "size"] 2 (sp_Turns__SplitFamily_unchecked_many K ca) ca.f_Turns__SplitFamily_unchecked_many fd0) {u_GREATEST_SIZE : Value} (g_GREATEST_SIZE : mg "GREATEST_SIZE" = some u_GREATEST_SIZE ∧ RelV (.int 40) u_GREATEST_SIZE) : FnOk P w K mg base (CX1 P w) 3 ca.f_Turns__Family_many fd ["self", "size"] (sp_Turns__Family_many K ca er) := by
  refine F.okE sc_Turns__Family_many (fun vs H Q E h => ?_) (fun cdv A outer s H vs Q E hr h => ?_)
  · obtain ⟨x, dx, fs, wd, n, rfl, hx, fl, q⟩ := h
    rfl
  obtain ⟨x, dx, fs, wd, n, rfl, hx, fl, q⟩ := h
  refine ⟨_, pss_cons (ps_if (PW.pt (pw_or (pt_cmpR op_lt (pv 1) (pe_fld (pv 0) rfl) (nomark _)) (pw_or1 (pt_cmpR op_gt (pv 1) (pe_glob (v := .int 40) rfl g_GREATEST_SIZE.1 g_GREATEST_SIZE.2) (nomark _))))) (pss_one (ps_raise thr_def EO.x_size rfl EO.m_size (pa_cons pe_str pa_nil))) pss_nil)
    (pss_one (ps_ret (pmeth (pv 0) CA.c_Turns CA.mt_Turns_unchecked_many d_Turns__SplitFamily_unchecked_many hr (pa_cons (pv 1) pa_nil)))), ?_⟩
  refine ⟨_, rfl, _, rfl, x, _, dx, fs, _, rfl, hx, CA.c_Turns, CA.na_Turns_least, fl.least, _, _, rfl, rfl, _, rfl, ?_⟩
  rcases q with ⟨h, q⟩ | ⟨n1, n40, q⟩
  · by_cases h1 : n < 0
    · exact iteP h1 (iteT ⟨sz (n := 1) (by decide), q⟩)
    · exact iteN h1 ⟨_, rfl, _, _, rfl, rfl, _, rfl, iteP (by omega) ⟨sz (n := 1) (by decide), q⟩⟩
  · refine iteN (by omega) ⟨_, rfl, _, _, rfl, rfl, _, rfl, iteN (by omega) ?_⟩
    exact ⟨_, rfl, x, dx, fs, rfl, hx, fl.no "unchecked_many" (by decide) (by decide), _, rfl, x, n, rfl, n1, n40, q⟩
theorem ok_Floors__SplitFamily_unchecked_many {er : Errs} (EO : ErrOk K mg er) {ca : ClA} (CA : ClOk K mg ca) {fd : FuncData} (F : Fun K "unchecked_many" "SplitFamily.unchecked_many" s_Floors__SplitFamily_unchecked_many ca.f_Floors__SplitFamily_unchecked_many fd) {f0 : Addr} {fd0 : FuncData} (d_by_rule : Def P w K mg base "by_rule" ["size"] 1 (sp_by_rule K ca) f0 fd0) : FnOk P w K mg base CX0 2 ca.f_Floors__SplitFamily_unchecked_many fd ["self", "size"] (sp_Floors__SplitFamily_unchecked_many K ca) := by
  refine F.ok sc_Floors__SplitFamily_unchecked_many (fun vs H Q E h => ?_) (fun cdv A outer s H vs Q E hr h => ?_)
  · obtain ⟨x, n, rfl, n0, n40, q⟩ := h
    rfl
  obtain ⟨x, n, rfl, n0, n40, q⟩ := h
  refine ⟨_, pss_one (ps_ret (pcall d_by_rule hr (pa_cons (pv 1) pa_nil))), ?_⟩
  exact ⟨_, rfl, n, rfl, n0, by omega, q⟩
theorem ok_Floors__Family_many {er : Errs} (EO : ErrOk K mg er) {ca : ClA} (CA : ClOk K mg ca) {fd : FuncData} (F : Fun K "many" "Family.many" s_Floors__Family_many ca.f_Floors__Family_many fd) {fd0 : FuncData} (d_Floors__SplitFamily_unchecked_many : MDef P w K mg base ["self", "size"] 2 (sp_Floors__SplitFamily_unchecked_many K ca) ca.f_Floors__SplitFamily_unchecked_many fd0) {u_GREATEST_SIZE : Value} (g_GREATEST_SIZE : mg "GREATEST_SIZE" = some u_GREATEST_SIZE ∧ RelV (.int 40) u_GREATEST_SIZE) : FnOk P w K mg base (CX1 P w) 3 ca.f_Floors__Family_many fd ["self", "size"] (sp_Floors__Family_many K ca er) := by
  refine F.okE sc_Floors__Family_many (fun vs H Q E h => ?_) (fun cdv A outer s H vs Q E hr h => ?_)
  · obtain ⟨x, dx, fs, wd, n, rfl, hx, fl, q⟩ := h
    rfl
  obtain ⟨x, dx, fs, wd, n, rfl, hx, fl, q⟩ := h
  refine ⟨_, pss_cons (ps_if (PW.pt (pw_or (pt_cmpR op_lt (pv 1) (pe_fld (pv 0) rfl) (nomark _)) (pw_or1 (pt_cmpR op_gt (pv 1) (pe_glob (v := .int 40) rfl g_GREATEST_SIZE.1 g_GREATEST_SIZE.2) (nomark _))))) (pss_one (ps_raise thr_def EO.x_size rfl EO.m_size (pa_cons pe_str pa_nil))) pss_nil)
    (pss_one (ps_ret (pmeth (pv 0) CA.c_Floors CA.mt_Floors_unchecked_many d_Floors__SplitFamily_unchecked_many hr (pa_cons (pv 1) pa_nil)))), ?_⟩
  refine ⟨_, rfl, _, rfl, x, _, dx, fs, _, rfl, hx, CA.c_Floors, CA.na_Floors_least, fl.least, _, _, rfl, rfl, _, rfl, ?_⟩
  rcases q with ⟨h, q⟩ | ⟨n1, n40, q⟩
  · by_cases h1 : n < 0
    · exact iteP h1 (iteT ⟨sz (n := 1) (by decide), q⟩)
    · exact iteN h1 ⟨_, rfl, _, _, rfl, rfl, _, rfl, iteP (by omega) ⟨sz (n := 1) (by decide), q⟩⟩
  · refine iteN (by omega) ⟨_, rfl, _, _, rfl, rfl, _, rfl, iteN (by omega) ?_⟩
    exact ⟨_, rfl, x, dx, fs, rfl, hx, fl.no "unchecked_many" (by decide) (by decide), _, rfl, x, n, rfl, n1, n40, q⟩
theorem ok_Rooms__SplitFamily_unchecked_many {er : Errs} (EO : ErrOk K mg er) {ca : ClA} (CA : ClOk K mg ca) {fd : FuncData} (F : Fun K "unchecked_many" "SplitFamily.unchecked_many" s_Rooms__SplitFamily_unchecked_many ca.f_Rooms__SplitFamily_unchecked_many fd) {f0 : Addr} {fd0 : FuncData} (d_by_rule : Def P w K mg base "by_rule" ["size"] 1 (sp_by_rule K ca) f0 fd0) : FnOk P w K mg base CX0 2 ca.f_Rooms__SplitFamily_unchecked_many fd ["self", "size"] (sp_Rooms__SplitFamily_unchecked_many K ca) := by
  refine F.ok sc_Rooms__SplitFamily_unchecked_many (fun vs H Q E h => ?_) (fun cdv A outer s H vs Q E hr h => ?_)
  · obtain ⟨x, n, rfl, n0, n40, q⟩ := h
    rfl
  obtain ⟨x, n, rfl, n0, n40, q⟩ := h
  refine ⟨_, pss_one (ps_ret (pcall d_by_rule hr (pa_cons (pv 1) pa_nil))), ?_⟩
  exact ⟨_, rfl, n, rfl, n0, by omega, q⟩
theorem ok_Rooms__Family_many {er : Errs} (EO : ErrOk K mg er) {ca : ClA} (CA : ClOk K mg ca) {fd : FuncData} (F : Fun K "many" "Family.many" s_Rooms__Family_many ca.f_Rooms__Family_many fd) {fd0 : FuncData} (d_Rooms__SplitFamily_unchecked_many : MDef P w K mg base ["self", "size"] 2 (sp_Rooms__SplitFamily_unchecked_many K ca) ca.f_Rooms__SplitFamily_unchecked_many fd0) {u_GREATEST_SIZE : Value} (g_GREATEST_SIZE : mg "GREATEST_SIZE" = some u_GREATEST_SIZE ∧ RelV (.int 40) u_GREATEST_SIZE) : FnOk P w K mg base (CX1 P w) 3 ca.f_Rooms__Family_many fd ["self", "size"] (sp_Rooms__Family_many K ca er) := by
  refine F.okE sc_Rooms__Family_many (fun vs H Q E h => ?_) (fun cdv A outer s H vs Q E hr h => ?_)
  · obtain ⟨x, dx, fs, wd, n, rfl, hx, fl, q⟩ := h
    rfl
  obtain ⟨x, dx, fs, wd, n, rfl, hx, fl, q⟩ := h
  refine ⟨_, pss_cons (ps_if (PW.pt (pw_or (pt_cmpR op_lt (pv 1) (pe_fld (pv 0) rfl) (nomark _)) (pw_or1 (pt_cmpR op_gt (pv 1) (pe_glob (v := .int 40) rfl g_GREATEST_SIZE.1 g_GREATEST_SIZE.2) (nomark _))))) (pss_one (ps_raise thr_def EO.x_size rfl EO.m_size (pa_cons pe_str pa_nil))) pss_nil)
    (pss_one (ps_ret (pmeth (pv 0) CA.c_Rooms CA.mt_Rooms_unchecked_many d_Rooms__SplitFamily_unchecked_many hr (pa_cons (pv 1) pa_nil)))), ?_⟩
  refine ⟨_, rfl, _, rfl, x, _, dx, fs, _, rfl, hx, CA.c_Rooms, CA.na_Rooms_least, fl.least, _, _, rfl, rfl, _, rfl, ?_⟩
  rcases q with ⟨h, q⟩ | ⟨n1, n40, q⟩
  · by_cases h1 : n < 0
    · exact iteP h1 (iteT ⟨sz (n := 1) (by decide), q⟩)
    · exact iteN h1 ⟨_, rfl, _, _, rfl, rfl, _, rfl, iteP (by omega) ⟨sz (n := 1) (by decide), q⟩⟩
  · refine iteN (by omega) ⟨_, rfl, _, _, rfl, rfl, _, rfl, iteN (by omega) ?_⟩
    exact ⟨_, rfl, x, dx, fs, rfl, hx, fl.no "unchecked_many" (by decide) (by decide), _, rfl, x, n, rfl, n1, n40, q⟩
theorem ok_Bows__SplitFamily_unchecked_many {er : Errs} (EO : ErrOk K mg er) {ca : ClA} (CA : ClOk K mg ca) {fd : FuncData} (F : Fun K "unchecked_many" "SplitFamily.unchecked_many" s_Bows__SplitFamily_unchecked_many ca.f_Bows__SplitFamily_unchecked_many fd) {f0 : Addr} {fd0 : FuncData} (d_by_rule : Def P w K mg base "by_rule" ["size"] 1 (sp_by_rule K ca) f0 fd0) : FnOk P w K mg base CX0 2 ca.f_Bows__SplitFamily_unchecked_many fd ["self", "size"] (sp_Bows__SplitFamily_unchecked_many K ca) := by
  refine F.ok sc_Bows__SplitFamily_unchecked_many (fun vs H Q E h => ?_) (fun cdv A outer s H vs Q E hr h => ?_)
  · obtain ⟨x, n, rfl, n0, n40, q⟩ := h
    rfl
  obtain ⟨x, n, rfl, n0, n40, q⟩ := h
  refine ⟨_, pss_one (ps_ret (pcall d_by_rule hr (pa_cons (pv 1) pa_nil))), ?_⟩
  exact ⟨_, rfl, n, rfl, n0, by omega, q⟩
theorem ok_Bows__Family_many {er : Errs} (EO : ErrOk K mg er) {ca : ClA} (CA : ClOk K mg ca) {fd : FuncData} (F : Fun K "many" "Family.many" s_Bows__Family_many ca.f_Bows__Family_many fd) {fd0 : FuncData} (d_Bows__SplitFamily_unchecked_many : MDef P w K mg base ["self", "size"] 2 (sp_Bows__SplitFamily_unchecked_many K ca) ca.f_Bows__SplitFamily_unchecked_many fd0) {u_GREATEST_SIZE : Value} (g_GREATEST_SIZE : mg "GREATEST_SIZE" = some u_GREATEST_SIZE ∧ RelV (.int 40) u_GREATEST_SIZE) : FnOk P w K mg base (CX1 P w) 3 ca.f_Bows__Family_many fd ["self", "size"] (sp_Bows__Family_many K ca er) := by
  refine F.okE sc_Bows__Family_many (fun vs H Q E h => ?_) (fun cdv A outer s H vs Q E hr h => ?_)
  · obtain ⟨x, dx, fs, wd, n, rfl, hx, fl, q⟩ := h
    rfl
  obtain ⟨x, dx, fs, wd, n, rfl, hx, fl, q⟩ := h
  refine ⟨_, pss_cons (ps_if (PW.pt (pw_or (pt_cmpR op_lt (pv 1) (pe_fld (pv 0) rfl) (nomark _)) (pw_or1 (pt_cmpR op_gt (pv 1) (pe_glob (v := .int 40) rfl g_GREATEST_SIZE.1 g_GREATEST_SIZE.2) (nomark _))))) (pss_one (ps_raise thr_def EO.x_size rfl EO.m_size (pa_cons pe_str pa_nil))) pss_nil)
    (pss_one (ps_ret (pmeth (pv 0) CA.c_Bows CA.mt_Bows_unchecked_many d_Bows__SplitFamily_unchecked_many hr (pa_cons (pv 1) pa_nil)))), ?_⟩
  refine ⟨_, rfl, _, rfl, x, _, dx, fs, _, rfl, hx, CA.c_Bows, CA.na_Bows_least, fl.least, _, _, rfl, rfl, _, rfl, ?_⟩
  rcases q with ⟨h, q⟩ | ⟨n1, n40, q⟩
  · by_cases h1 : n < 0
    · exact iteP h1 (iteT ⟨sz (n := 1) (by decide), q⟩)
    · exact iteN h1 ⟨_, rfl, _, _, rfl, rfl, _, rfl, iteP (by omega) ⟨sz (n := 1) (by decide), q⟩⟩
  · refine iteN (by omega) ⟨_, rfl, _, _, rfl, rfl, _, rfl, iteN (by omega) ?_⟩
    exact ⟨_, rfl, x, dx, fs, rfl, hx, fl.no "unchecked_many" (by decide) (by decide), _, rfl, x, n, rfl, n1, n40, q⟩
theorem ok__law_classes {er : Errs} (EO : ErrOk K mg er) {ca : ClA} (CA : ClOk K mg ca) {f : Addr} {fd : FuncData} (F : Fun K "_law_classes" "_law_classes" s__law_classes f fd) (m_isinstance : mg "isinstance" = none) (m_ValueError : mg "ValueError" = none) : FnOk P w K mg base CX0 1 f fd ["_law_error"] (sp__law_classes K ca er) := by
  refine F.ok sc__law_classes (fun vs H Q E h => ?_) (fun cdv A outer s H vs Q E hr h => ?_)
  · obtain ⟨e, c, t, rfl, he, ht, q⟩ := h
    rfl
  obtain ⟨e, c, t, rfl, he, ht, q⟩ := h
  refine ⟨_, pss_cons (ps_set (i := 1) sc__law_classes.nd rfl (Or.inl rfl) (pe_lst pa_nil))
    (pss_cons (ps_if (pt_val (pe_callB (call_isinstX) rfl m_isinstance bb_isinstance (pa_cons (pv 0) (pa_cons (pe_glob (v := .ref er.size) rfl EO.m_size rfl) pa_nil)))) (pss_one (ps_expr (pe_bm PySem.F.plainAttrs_list PySem.F.slot_list_append PySem.F.type_list_append mt_append (pv 1) (pa_cons pe_str pa_nil)))) pss_nil)
    (pss_cons (ps_if (pt_val (pe_callB (call_isinstX) rfl m_isinstance bb_isinstance (pa_cons (pv 0) (pa_cons (pe_glob (v := .ref er.number) rfl EO.m_number rfl) pa_nil)))) (pss_one (ps_expr (pe_bm PySem.F.plainAttrs_list PySem.F.slot_list_append PySem.F.type_list_append mt_append (pv 1) (pa_cons pe_str pa_nil)))) pss_nil)
    (pss_cons (ps_if (PW.pt (pw_or (pt_val (pe_callB (call_isinstX) rfl m_isinstance bb_isinstance (pa_cons (pv 0) (pa_cons (pe_glob (v := .ref er.thing) rfl EO.m_thing rfl) pa_nil)))) (pw_or (pt_val (pe_callB (call_isinstX) rfl m_isinstance bb_isinstance (pa_cons (pv 0) (pa_cons (pe_glob (v := .ref er.family) rfl EO.m_family rfl) pa_nil)))) (pw_or1 (pt_val (pe_callB (call_isinstX) rfl m_isinstance bb_isinstance (pa_cons (pv 0) (pa_cons (pe_glob (v := .ref er.way) rfl EO.m_way rfl) pa_nil)))))))) (pss_one (ps_expr (pe_bm PySem.F.plainAttrs_list PySem.F.slot_list_append PySem.F.type_list_append mt_append (pv 1) (pa_cons pe_str pa_nil)))) pss_nil)
    (pss_cons (ps_if (PW.pt (pw_or (pt_val (pe_callB (call_isinstX) rfl m_isinstance bb_isinstance (pa_cons (pv 0) (pa_cons (pe_glob (v := .ref er.mark) rfl EO.m_mark rfl) pa_nil)))) (pw_or1 (pt_val (pe_callB (call_isinstX) rfl m_isinstance bb_isinstance (pa_cons (pv 0) (pa_cons (pe_glob (v := .ref er.text) rfl EO.m_text rfl) pa_nil))))))) (pss_one (ps_expr (pe_bm PySem.F.plainAttrs_list PySem.F.slot_list_append PySem.F.type_list_append mt_append (pv 1) (pa_cons pe_str pa_nil)))) pss_nil)
    (pss_cons (ps_if (PW.pt (pw_or (pt_val (pe_callB (call_isinstX) rfl m_isinstance bb_isinstance (pa_cons (pv 0) (pa_cons (pe_glob (v := .ref er.apart) rfl EO.m_apart rfl) pa_nil)))) (pw_or (pt_val (pe_callB (call_isinstX) rfl m_isinstance bb_isinstance (pa_cons (pv 0) (pa_cons (pe_glob (v := .ref er.broken) rfl EO.m_broken rfl) pa_nil)))) (pw_or1 (pt_not (pt_val (pe_callB (call_isinstX) rfl m_isinstance bb_isinstance (pa_cons (pv 0) (pa_cons (pe_bltn (v := .ty "ValueError") rfl m_ValueError bb_ValueError rfl) pa_nil))))))))) (pss_one (ps_expr (pe_bm PySem.F.plainAttrs_list PySem.F.slot_list_append PySem.F.type_list_append mt_append (pv 1) (pa_cons pe_str pa_nil)))) pss_nil)
    (pss_one (ps_ret (pv 1)))))))), ?_⟩
  refine ⟨Nat.zero_le _, fun p hp => ?_⟩
  have s1 := Same.new (Same.refl H) hp (.lst [])
  have he1 : upd H p (.lst []) e = some (excO e (.ref c)) := s1 _ _ he
  have nep : e ≠ p := ne_of_none he hp
  have he2 : ∀ o, upd (upd H p (.lst [])) p o e = some (excO e (.ref c)) := fun o => (upd_ne nep).trans he1
  have s2 : ∀ o, Same H (upd (upd H p (.lst [])) p o) := fun o => s1.upd hp o
  have l0 : ([] : List V).length < sizeLine := sz' (n := 0) (by decide)
  rcases ht with ⟨rfl, rfl⟩ | ⟨rfl, rfl⟩
  · skip
    refine ⟨_, rfl, e, _, _, _, _, rfl, relRef, he1, EO.k_size, EO.size_size, _, rfl, iteT ⟨_, rfl, .inl ⟨rfl, _, SqL.of upd_same⟩, p, _, _, rfl, rfl, upd_same, l0, ?_⟩⟩
    refine ⟨_, rfl, e, _, _, _, _, rfl, relRef, he2 _, EO.k_size, EO.size_number, _, rfl, iteF ?_⟩
    refine ⟨_, rfl, e, _, _, _, _, rfl, relRef, he2 _, EO.k_size, EO.size_thing, _, rfl, iteF ⟨_, rfl, e, _, _, _, _, rfl, relRef, he2 _, EO.k_size, EO.size_family, _, rfl, iteF ⟨_, rfl, e, _, _, _, _, rfl, relRef, he2 _, EO.k_size, EO.size_way, _, rfl, iteF ?_⟩⟩⟩
    refine ⟨_, rfl, e, _, _, _, _, rfl, relRef, he2 _, EO.k_size, EO.size_mark, _, rfl, iteF ⟨_, rfl, e, _, _, _, _, rfl, relRef, he2 _, EO.k_size, EO.size_text, _, rfl, iteF ?_⟩⟩
    refine ⟨_, rfl, e, _, _, _, _, rfl, relRef, he2 _, EO.k_size, EO.size_apart, _, rfl, iteF ⟨_, rfl, e, _, _, _, _, rfl, relRef, he2 _, EO.k_size, EO.size_broken, _, rfl, iteF ⟨_, rfl, e, _, _, _, _, rfl, relTy, he2 _, EO.k_size, EO.size_value, _, rfl, iteF ?_⟩⟩⟩
    exact ⟨_, rfl, q p _ (s2 _) hp upd_same⟩
  · skip
    refine ⟨_, rfl, e, _, _, _, _, rfl, relRef, he1, EO.k_number, EO.number_size, _, rfl, iteF ?_⟩
    refine ⟨_, rfl, e, _, _, _, _, rfl, relRef, he1, EO.k_number, EO.number_number, _, rfl, iteT ⟨_, rfl, .inl ⟨rfl, _, SqL.of upd_same⟩, p, _, _, rfl, rfl, upd_same, l0, ?_⟩⟩
    refine ⟨_, rfl, e, _, _, _, _, rfl, relRef, he2 _, EO.k_number, EO.number_thing, _, rfl, iteF ⟨_, rfl, e, _, _, _, _, rfl, relRef, he2 _, EO.k_number, EO.number_family, _, rfl, iteF ⟨_, rfl, e, _, _, _, _, rfl, relRef, he2 _, EO.k_number, EO.number_way, _, rfl, iteF ?_⟩⟩⟩
    refine ⟨_, rfl, e, _, _, _, _, rfl, relRef, he2 _, EO.k_number, EO.number_mark, _, rfl, iteF ⟨_, rfl, e, _, _, _, _, rfl, relRef, he2 _, EO.k_number, EO.number_text, _, rfl, iteF ?_⟩⟩
    refine ⟨_, rfl, e, _, _, _, _, rfl, relRef, he2 _, EO.k_number, EO.number_apart, _, rfl, iteF ⟨_, rfl, e, _, _, _, _, rfl, relRef, he2 _, EO.k_number, EO.number_broken, _, rfl, iteF ⟨_, rfl, e, _, _, _, _, rfl, relTy, he2 _, EO.k_number, EO.number_value, _, rfl, iteF ?_⟩⟩⟩
    exact ⟨_, rfl, q p _ (s2 _) hp upd_same⟩
theorem ok__law_many_refused {er : Errs} (EO : ErrOk K mg er) {ca : ClA} (CA : ClOk K mg ca) {f : Addr} {fd : FuncData} (F : Fun K "_law_many_refused" "_law_many_refused" s__law_many_refused f fd) {fd0 : FuncData} (d_Turns__Family_many : MDef P w K mg base ["self", "size"] 3 (sp_Turns__Family_many K ca er) ca.f_Turns__Family_many fd0) {fd1 : FuncData} (d_Floors__Family_many : MDef P w K mg base ["self", "size"] 3 (sp_Floors__Family_many K ca er) ca.f_Floors__Family_many fd1) {fd2 : FuncData} (d_Rooms__Family_many : MDef P w K mg base ["self", "size"] 3 (sp_Rooms__Family_many K ca er) ca.f_Rooms__Family_many fd2) {fd3 : FuncData} (d_Bows__Family_many : MDef P w K mg base ["self", "size"] 3 (sp_Bows__Family_many K ca er) ca.f_Bows__Family_many fd3) {f4 : Addr} {fd4 : FuncData} (d__law_classes : Def P w K mg base "_law_classes" ["_law_error"] 1 (sp__law_classes K ca er) f4 fd4) : FnOk P w K mg base CX0 4 f fd ["_law_kin_here", "_law_size"] (sp__law_many_refused K ca er) := by
  refine F.ok sc__law_many_refused (fun vs H Q E h => ?_) (fun cdv A outer s H vs Q E hr h => ?_)
  · obtain ⟨x, dx, fs, wd, w, n, rfl, hw, o0, o1, o2, o3, fl, hn, q⟩ := h
    rfl
  obtain ⟨x, dx, fs, wd, w, n, rfl, hw, o0, o1, o2, o3, fl, hn, q⟩ := h
  refine ⟨_, pss_cons (ps_set (i := 2) sc__law_many_refused.nd rfl (Or.inl rfl) pe_non)
    (pss_cons (ps_tryAs (i := 3) rfl rfl rfl sc__law_many_refused.nd rfl rfl rfl EO.m_kin (px_eit (px_meth (fun _ _ => (pv 0)) CA.c_Bows CA.mt_Bows_many d_Bows__Family_many hr (fun _ _ => (pa_cons (pv 1) pa_nil))) (px_eit (px_meth (fun _ _ => (pv 0)) CA.c_Rooms CA.mt_Rooms_many d_Rooms__Family_many hr (fun _ _ => (pa_cons (pv 1) pa_nil))) (px_eit (px_meth (fun _ _ => (pv 0)) CA.c_Floors CA.mt_Floors_many d_Floors__Family_many hr (fun _ _ => (pa_cons (pv 1) pa_nil))) (px_meth (fun _ _ => (pv 0)) CA.c_Turns CA.mt_Turns_many d_Turns__Family_many hr (fun _ _ => (pa_cons (pv 1) pa_nil)))))) (fun _ => (pss_one (ps_set (i := 2) sc__law_many_refused.nd rfl (Or.inl rfl) (pv 3)))))
    (pss_one (ps_ret (pcall d__law_classes hr (pa_cons (pv 2) pa_nil))))), ?_⟩
  have ob := And.intro o0 (And.intro o1 (And.intro o2 o3))
  rcases (by omega : w = 0 ∨ w = 1 ∨ w = 2 ∨ w = 3) with rfl | rfl | rfl | rfl
  · have hx := ob.1 rfl
    refine (.inl ⟨_, rfl, x, dx, fs, rfl, hx, fl.no "many" (by decide) (by decide), _, rfl, x, dx, fs, wd, n, rfl, hx, fl, .inl ⟨hn, EO.c_size, fun e he => ⟨_, rfl, ?_⟩⟩⟩)
    refine ⟨_, rfl, e, er.size, _, rfl, upd_same, .inl ⟨rfl, rfl⟩, fun p H' sm fp hp => ?_⟩
    have s2 := Same.new (Same.refl H) he (excO e (.ref er.size))
    exact q p H' (s2.trans sm) (s2.free fp) hp
  · have hx := ob.2.1 rfl
    refine (.inr (.inl ⟨_, rfl, x, dx, fs, rfl, hx, fl.no "many" (by decide) (by decide), _, rfl, x, dx, fs, wd, n, rfl, hx, fl, .inl ⟨hn, EO.c_size, fun e he => ⟨_, rfl, ?_⟩⟩⟩))
    refine ⟨_, rfl, e, er.size, _, rfl, upd_same, .inl ⟨rfl, rfl⟩, fun p H' sm fp hp => ?_⟩
    have s2 := Same.new (Same.refl H) he (excO e (.ref er.size))
    exact q p H' (s2.trans sm) (s2.free fp) hp
  · have hx := ob.2.2.1 rfl
    refine (.inr (.inr (.inl ⟨_, rfl, x, dx, fs, rfl, hx, fl.no "many" (by decide) (by decide), _, rfl, x, dx, fs, wd, n, rfl, hx, fl, .inl ⟨hn, EO.c_size, fun e he => ⟨_, rfl, ?_⟩⟩⟩)))
    refine ⟨_, rfl, e, er.size, _, rfl, upd_same, .inl ⟨rfl, rfl⟩, fun p H' sm fp hp => ?_⟩
    have s2 := Same.new (Same.refl H) he (excO e (.ref er.size))
    exact q p H' (s2.trans sm) (s2.free fp) hp
  · have hx := ob.2.2.2 rfl
    refine (.inr (.inr (.inr ⟨_, rfl, x, dx, fs, rfl, hx, fl.no "many" (by decide) (by decide), _, rfl, x, dx, fs, wd, n, rfl, hx, fl, .inl ⟨hn, EO.c_size, fun e he => ⟨_, rfl, ?_⟩⟩⟩)))
    refine ⟨_, rfl, e, er.size, _, rfl, upd_same, .inl ⟨rfl, rfl⟩, fun p H' sm fp hp => ?_⟩
    have s2 := Same.new (Same.refl H) he (excO e (.ref er.size))
    exact q p H' (s2.trans sm) (s2.free fp) hp
theorem ok_Turns__bare {er : Errs} (EO : ErrOk K mg er) {ca : ClA} (CA : ClOk K mg ca) {fd : FuncData} (F : Fun K "bare" "Turns.bare" s_Turns__bare ca.f_Turns__bare fd) : FnOk P w K mg base CX0 1 ca.f_Turns__bare fd ["self"] (sp_Turns__bare K ca) := by
  refine F.ok sc_Turns__bare (fun vs H Q E h => ?_) (fun cdv A outer s H vs Q E hr h => ?_)
  · obtain ⟨x, rfl, q⟩ := h
    rfl
  obtain ⟨x, rfl, q⟩ := h
  refine ⟨_, pss_one (ps_ret (pe_lst pa_nil)), ?_⟩
  have q : ∀ (p : Addr) (H' : Hp), Same H H' → H p = none → H' p = some (.lst []) → Q (.ref p) H' := fun p H' s f h => q _ _ s ⟨p, [], rfl, h, rfl⟩
  exact ⟨Nat.zero_le _, fun p hp => q p _ (Same.new (Same.refl H) hp _) hp upd_same⟩
theorem ok_raised_by {er : Errs} (EO : ErrOk K mg er) {ca : ClA} (CA : ClOk K mg ca) {f : Addr} {fd : FuncData} (F : Fun K "raised_by" "raised_by" s_raised_by f fd) : FnOk P w K mg base CX0 1 f fd ["numbers", "step"] (sp_raised_by K ca) := by
  refine F.ok sc_raised_by (fun vs H Q E h => ?_) (fun cdv A outer s H vs Q E hr h => ?_)
  · obtain ⟨l, ns, d, rfl, hl, hz, q⟩ := h
    rfl
  obtain ⟨l, ns, d, rfl, hl, hz, q⟩ := h
  refine ⟨_, pss_one (ps_ret (pe_comp rfl (pi_list (pv 0)) rfl rfl rfl rfl (N := ["number", "step"]) (.own (.cap (j := 1) rfl rfl rfl .nil)) (fun _ _ _ _ _ _ => (pg_name (i := 0) (by show List.Nodup (["number", "step"] : List Str); decide +kernel) rfl (Or.inl rfl))) (fun _ _ _ _ _ _ => pts_nil) (fun _ _ _ _ _ _ => (pe_op op_add (pv 0) (pv 1))))), ?_⟩
  have ml : (ns.map V.int).length = ns.length := List.length_map _
  refine ⟨_, rfl, l, rfl, ⟨_, hl⟩, fun D hD => comp_list (fun v => match v with | .int c => .int (c + d) | v => v) (by rw [ml]; exact sz (by omega)) hl hD (fun i x H' R R0 hx hb hR => ?_) ?_⟩
  · obtain ⟨c, rfl⟩ := get_int hx
    exact ⟨Ext.set rfl, ttN (iteT ⟨_, rfl, _, rfl, _, _, rfl, rfl, hR⟩)⟩
  have e1 : (ns.map V.int).map (fun v => match v with | .int c => V.int (c + d) | v => v) = (ns.map (· + d)).map V.int := by rw [List.map_map, List.map_map]; rfl
  rw [e1]
  exact q D _ (Same.new (Same.refl H) hD _) hD upd_same
theorem ok_Turns__joined {er : Errs} (EO : ErrOk K mg er) {ca : ClA} (CA : ClOk K mg ca) {fd : FuncData} (F : Fun K "joined" "Turns.joined" s_Turns__joined ca.f_Turns__joined fd) {f0 : Addr} {fd0 : FuncData} (d_raised_by : Def P w K mg base "raised_by" ["numbers", "step"] 1 (sp_raised_by K ca) f0 fd0) (m_len : mg "len" = none) : FnOk P w K mg base CX0 2 ca.f_Turns__joined fd ["self", "left", "right"] (sp_Turns__joined K ca) := by
  refine F.ok sc_Turns__joined (fun vs H Q E h => ?_) (fun cdv A outer s H vs Q E hr h => ?_)
  · obtain ⟨x, dx, fs, wd, vl, vr, i, j, rfl, hx, fl, thl, thr, hij39, q⟩ := h
    rfl
  obtain ⟨x, dx, fs, wd, vl, vr, i, j, rfl, hx, fl, thl, thr, hij39, q⟩ := h
  refine ⟨_, pss_one (ps_ret (pe_op op_cat (pe_op op_cat (pcall d_raised_by hr (pa_cons (pv 1) (pa_cons pe_int pa_nil))) (pe_lst (pa_cons pe_int pa_nil))) (pcall d_raised_by hr (pa_cons (pv 2) (pa_cons (pe_op op_add (pe_callB call_len_seq rfl m_len bb_len (pa_cons (pv 1) pa_nil)) pe_int) pa_nil))))), ?_⟩
  obtain ⟨l, ps, rfl, hl, el⟩ := thl
  obtain ⟨r, qs, rfl, hr2, er⟩ := thr
  have lps : ps.length ≤ 40 := by omega
  have lqs : qs.length ≤ 40 := by omega
  have q : ∀ (p : Addr) (H' : Hp), Same H H' → H p = none → H' p = some (.lst ((joinT ps qs).map V.int)) → Q (.ref p) H' := fun p H' s f h => q _ _ s ⟨p, _, rfl, h, by rw [joinT_len]; omega⟩
  have ml : (ps.map V.int).length = ps.length := List.length_map _
  refine ⟨_, rfl, l, ps, 1, rfl, SqL.of hl, by omega, fun D H1 s1 fD hD => ?_⟩
  refine ⟨(by show 1 ≤ sizeLine; decide), fun p0 hp0 => ?_⟩
  have s2 := Same.new s1 hp0 (.lst [.int 0])
  have nD0 : D ≠ p0 := ne_of_none hD hp0
  refine ⟨D, p0, _, _, rfl, rfl, (upd_ne nD0).trans hD, upd_same, ?_, fun p1 hp1 => ?_⟩
  · rw [List.length_map, List.length_map]; exact sz (by simp; omega)
  have s3 := Same.new s2 hp1 (.lst ((ps.map (· + 1)).map V.int ++ [.int 0]))
  have h13 : upd (upd H1 p0 (.lst [.int 0])) p1 (.lst ((ps.map (· + 1)).map V.int ++ [.int 0])) p1 = some (.lst ((ps.map (· + 1)).map V.int ++ [.int 0])) := upd_same
  generalize upd (upd H1 p0 (.lst [.int 0])) p1 (.lst ((ps.map (· + 1)).map V.int ++ [.int 0])) = H3 at s3 h13 ⊢
  refine ⟨_, rfl, _, rfl, l, _, rfl, .inl (SqL.of (s3 _ _ hl)), _, _, rfl, rfl, ?_⟩
  try dsimp only
  rw [ml]
  refine ⟨r, qs, _, rfl, SqL.of (s3 _ _ hr2), by omega, fun D2 H4 s4 fD2 hD2 => ?_⟩
  have s34 := s3.trans s4
  refine ⟨p1, D2, _, _, rfl, rfl, s4 _ _ h13, hD2, ?_, fun p hp => ?_⟩
  · simp only [List.length_append, List.length_map]; exact sz (by simp; omega)
  refine q p _ (Same.new s34 hp _) (s34.free hp) ?_
  rw [upd_same]
  unfold joinT
  rw [List.map_append, List.map_append]
  rfl
theorem ok_Turns__SplitFamily_thing_by_parts {er : Errs} (EO : ErrOk K mg er) {ca : ClA} (CA : ClOk K mg ca) {fd : FuncData} (F : Fun K "thing_by_parts" "SplitFamily.thing_by_parts" s_Turns__SplitFamily_thing_by_parts ca.f_Turns__SplitFamily_thing_by_parts fd) {fd0 : FuncData} (d_Turns__bare : MDef P w K mg base ["self"] 1 (sp_Turns__bare K ca) ca.f_Turns__bare fd0) {fd2 : FuncData} (d_Turns__joined : MDef P w K mg base ["self", "left", "right"] 2 (sp_Turns__joined K ca) ca.f_Turns__joined fd2) (n : Nat) (d_self : MDef P w K mg base ["self", "counts", "size", "number"] (2 + n) (below n fun m => sp_Turns__SplitFamily_thing_by_parts K ca m) ca.f_Turns__SplitFamily_thing_by_parts fd) : FnOk P w K mg base (CX1 P w) (2 + n + 1) ca.f_Turns__SplitFamily_thing_by_parts fd ["self", "counts", "size", "number"] (sp_Turns__SplitFamily_thing_by_parts K ca n) := by
  refine FnOk.up ?_
  refine F.ok sc_Turns__SplitFamily_thing_by_parts (fun vs H Q E h => ?_) (fun cdv A outer s H vs Q E hr h => ?_)
  · obtain ⟨x, dx, fs, wd, pc, k, m, rfl, hx, fl, hc, hk, k40, m0, m1, q⟩ := h
    rfl
  obtain ⟨x, dx, fs, wd, pc, k, m, rfl, hx, fl, hc, hk, k40, m0, m1, q⟩ := h
  refine ⟨_, pss_cons (ps_if (pt_cmpR op_eq (pv 2) pe_int (nomark _)) (pss_one (ps_ret (pmeth0 (pv 0) CA.c_Turns CA.mt_Turns_bare d_Turns__bare hr (hjk := by omega)))) pss_nil)
    (pss_cons (ps_set (i := 4) sc_Turns__SplitFamily_thing_by_parts.nd rfl (Or.inl rfl) pe_int)
    (pss_cons (ps_set (i := 5) sc_Turns__SplitFamily_thing_by_parts.nd rfl (Or.inl rfl) (pv 3))
    (pss_cons (ps_while PassesOwn.never (pt_cmpR op_ge (pv 5) (pe_op op_mul (pe_ix ix_list (pv 1) (pv 4) (fun _ _ => rfl)) (pe_ix ix_list (pv 1) (pe_op op_sub (pe_op op_sub (pv 2) pe_int) (pv 4)) (fun _ _ => rfl))) (nomark _)) (pss_cons (ps_aug (i := 5) sc_Turns__SplitFamily_thing_by_parts.nd rfl (Or.inl rfl) (pe_op op_mul (pe_ix ix_list (pv 1) (pv 4) (fun _ _ => rfl)) (pe_ix ix_list (pv 1) (pe_op op_sub (pe_op op_sub (pv 2) pe_int) (pv 4)) (fun _ _ => rfl))) ip_sub)
    (pss_one (ps_aug (i := 4) sc_Turns__SplitFamily_thing_by_parts.nd rfl (Or.inl rfl) pe_int ip_add))))
    (pss_cons (ps_set (i := 6) sc_Turns__SplitFamily_thing_by_parts.nd rfl (Or.inl rfl) (pe_op op_sub (pe_op op_sub (pv 2) pe_int) (pv 4)))
    (pss_cons (ps_set (i := 7) sc_Turns__SplitFamily_thing_by_parts.nd rfl (Or.inl rfl) (pmeth (pv 0) CA.c_Turns CA.mt_Turns_thing_by_parts d_self hr (pa_cons (pv 1) (pa_cons (pv 4) (pa_cons (pe_op op_fdivL (pv 5) (pe_ix ix_list (pv 1) (pv 6) (fun _ _ => rfl))) pa_nil))) (hjk := by omega)))
    (pss_cons (ps_set (i := 8) sc_Turns__SplitFamily_thing_by_parts.nd rfl (Or.inl rfl) (pmeth (pv 0) CA.c_Turns CA.mt_Turns_thing_by_parts d_self hr (pa_cons (pv 1) (pa_cons (pv 6) (pa_cons (pe_op op_mod (pv 5) (pe_ix ix_list (pv 1) (pv 6) (fun _ _ => rfl))) pa_nil))) (hjk := by omega)))
    (pss_one (ps_ret (pmeth (pv 0) CA.c_Turns CA.mt_Turns_joined d_Turns__joined hr (pa_cons (pv 7) (pa_cons (pv 8) pa_nil)) (hjk := by omega)))))))))), ?_⟩
  refine ⟨_, rfl, rfl, _, rfl, ?_⟩
  by_cases h0 : n = 0
  · subst h0
    exact iteP rfl ⟨_, rfl, x, dx, fs, rfl, hx, fl.no "bare" (by decide) (by decide), x, rfl, fun v H' s th => q v H' s th⟩
  refine iteN (fun z => h0 (by injection z with z; omega)) ⟨_, rfl, ?_⟩
  have lk : (shL k).length = k + 1 := shL_length k
  have at_ : ∀ (j : Nat) (z : Int), z = (j : Int) → j ≤ k → atI ((shL k).map V.int) z = some (.int (sh j)) := fun j z ez hj => by
    have := atI_int (ns := shL k) (i := z) (by omega) (by omega)
    rw [show z.toNat = j by omega, shL_get k j hj] at this
    exact this
  have all : pre n n = sh n := by
    obtain ⟨a, rfl⟩ : ∃ a, n = a + 1 := ⟨n - 1, by omega⟩
    exact pre_all a
  refine ⟨fun mm σ H5 => ∃ (o1 o2 o3 : Option V) (j : Nat), σ = [some (.ref x), some (.ref pc), some (.int (n : Int)), some (.int m), some (.int (j : Int)), some (.int (m - pre n j)), o1, o2, o3] ∧ H = H5 ∧ j < n ∧ pre n j ≤ m ∧ mm = n - j, ⟨_, _, _, _, 0, by rw [show pre n 0 = 0 from rfl, Int.sub_zero]; rfl, rfl, by omega, m0, rfl⟩, ?_⟩
  rintro mm σ H5 ⟨o1, o2, o3, j, rfl, rfl, hj, hle, rfl⟩
  have p1 := sh_pos j
  have p2 := sh_pos (n - 1 - j)
  have a1 := at_ j (j : Int) rfl (by omega)
  have a2 := at_ (n - 1 - j) ((n : Int) - 1 - (j : Int)) (by omega) (by omega)
  have mc : CMul (sh j) (sh (n - 1 - j)) := mulC (a := j) (b := n - 1 - j) (by omega) (by omega) (Int.le_refl _) (by omega) (Int.le_refl _)
  refine ⟨_, rfl, _, rfl, _, rfl, pc, _, _, _, rfl, rfl, SqL.of hc, a1, _, rfl, _, rfl, _, _, rfl, rfl, _, rfl, _, _, rfl, rfl, pc, _, _, _, rfl, rfl, SqL.of hc, a2, _, _, rfl, rfl, mc, _, _, rfl, rfl, _, rfl, ?_⟩
  have ps := pre_succ n j
  by_cases h : m - pre n j ≥ sh j * sh (n - 1 - j)
  · have hj1 : j + 1 < n := by
      by_cases z : j + 1 = n
      · rw [z, all] at ps; omega
      · omega
    refine iteP h ⟨fun σ' H6 => σ' = [some (.ref x), some (.ref pc), some (.int (n : Int)), some (.int m), some (.int ((j : Int) + 1)), some (.int (m - pre n j - sh j * sh (n - 1 - j))), o1, o2, o3] ∧ H = H6, ?_, ?_⟩
    · rintro σ' H6 ⟨rfl, rfl⟩
      refine ⟨n - (j + 1), by omega, o1, o2, o3, j + 1, ?_, rfl, hj1, by omega, rfl⟩
      rw [show m - pre n (j + 1) = m - pre n j - sh j * sh (n - 1 - j) by omega]
      rfl
    · exact ⟨_, rfl, _, rfl, _, rfl, pc, _, _, _, rfl, rfl, SqL.of hc, a1, _, rfl, _, rfl, _, _, rfl, rfl, _, rfl, _, _, rfl, rfl, pc, _, _, _, rfl, rfl, SqL.of hc, a2, _, _, rfl, rfl, mc, _, _, rfl, rfl, _, rfl, _, _, rfl, rfl, rfl, rfl⟩
  refine iteN h ⟨_, rfl, _, _, rfl, rfl, _, rfl, _, _, rfl, rfl, ?_⟩
  try dsimp only
  have eb : (n : Int) - 1 - (j : Int) = ((n - 1 - j : Nat) : Int) := by omega
  rw [eb]
  generalize hR : m - pre n j = R at h
  have R0 : 0 ≤ R := by omega
  have d0 : 0 ≤ R / sh (n - 1 - j) := Int.ediv_nonneg R0 (by omega)
  have d1 : R / sh (n - 1 - j) < sh j := Int.ediv_lt_of_lt_mul (by omega) (by omega)
  have e0 := Int.emod_nonneg R (show sh (n - 1 - j) ≠ 0 by omega)
  have e1 := Int.emod_lt_of_pos R (show 0 < sh (n - 1 - j) by omega)
  have a3 := at_ (n - 1 - j) ((n - 1 - j : Nat) : Int) rfl (by omega)
  refine ⟨_, rfl, x, dx, fs, rfl, hx, fl.no "thing_by_parts" (by decide) (by decide), _, rfl, _, rfl, _, rfl, _, rfl, _, rfl, pc, _, _, _, rfl, rfl, SqL.of hc, a3, _, _, rfl, rfl, divB (by omega) (sh_big (by omega)), j, by omega, x, dx, fs, wd, pc, k, R / sh (n - 1 - j), rfl, hx, fl, hc, by omega, k40, d0, d1, fun vl H1 s1 th1 => ?_⟩
  refine ⟨_, rfl, x, dx, fs, rfl, s1 _ _ hx, fl.no "thing_by_parts" (by decide) (by decide), _, rfl, _, rfl, _, rfl, _, rfl, _, rfl, pc, _, _, _, rfl, rfl, SqL.of (s1 _ _ hc), a3, _, _, rfl, rfl, by omega, n - 1 - j, by omega, x, dx, fs, wd, pc, k, R % sh (n - 1 - j), rfl, s1 _ _ hx, fl, s1 _ _ hc, by omega, k40, e0, e1, fun vr H2 s2 th2 => ?_⟩
  have s12 := s1.trans s2
  refine ⟨_, rfl, x, dx, fs, rfl, s12 _ _ hx, fl.no "joined" (by decide) (by decide), _, rfl, _, rfl, x, dx, fs, wd, vl, vr, j, n - 1 - j, rfl, s12 _ _ hx, fl, th1.same s2, th2, by omega, fun v H' s th => ?_⟩
  rw [show j + (n - 1 - j) + 1 = n by omega] at th
  exact q v H' (s12.trans s) th
theorem ok_shares {er : Errs} (EO : ErrOk K mg er) {ca : ClA} (CA : ClOk K mg ca) {f : Addr} {fd : FuncData} (F : Fun K "shares" "shares" s_shares f fd) (m_range : mg "range" = none) (m_sum : mg "sum" = none) : FnOk P w K mg base CX0 1 f fd ["most"] (sp_shares K ca) := by
  refine F.ok sc_shares (fun vs H Q E h => ?_) (fun cdv A outer s H vs Q E hr h => ?_)
  · obtain ⟨n, rfl, h0, h1, q⟩ := h
    rfl
  obtain ⟨n, rfl, h0, h1, q⟩ := h
  refine ⟨_, pss_cons (ps_set (i := 1) sc_shares.nd rfl (Or.inr rfl) (pe_lst (pa_cons pe_int pa_nil)))
    (pss_cons (ps_for PassesOwn.never rfl (pi_range1 rfl m_range (pa_cons (pv 0) pa_nil)) (pg_name (i := 2) sc_shares.nd rfl (Or.inr rfl)) (pss_one (ps_expr (pe_bm PySem.F.plainAttrs_list PySem.F.slot_list_append PySem.F.type_list_append mt_append (pv 1) (pa_cons (pe_callB (call_sum rfl) rfl m_sum bb_sum (pa_cons (pe_comp rfl (pi_range1 rfl m_range (pa_cons (pe_op op_add (pv 2) pe_int) pa_nil)) rfl rfl rfl rfl (N := ["j", "found", "k"]) (.own (.cap (j := 1) rfl rfl rfl (.cap (j := 2) rfl rfl rfl .nil))) (fun _ _ _ _ _ _ => (pg_name (i := 0) (by show List.Nodup (["j", "found", "k"] : List Str); decide +kernel) rfl (Or.inl rfl))) (fun _ _ _ _ _ _ => pts_nil) (fun _ _ _ _ _ _ => (pe_op op_mul (pe_ix (ix_listK (K := K) rfl) (pv 1) (pv 0) (fun _ _ => rfl)) (pe_ix (ix_listK (K := K) rfl) (pv 1) (pe_op op_sub (pv 2) (pv 0)) (fun _ _ => rfl))))) pa_nil)) pa_nil)))))
    (pss_one (ps_ret (pv 1)))), ?_⟩
  refine ⟨(by show 1 ≤ sizeLine; decide), fun p hp => ?_⟩
  refine ⟨_, rfl, n, rfl, by omega, by omega, for_range (lo := 0) (n := n.toNat) (fun i σ H' => ∃ o, σ = [some (.int n), some (.ref p), o] ∧ Same H H' ∧ H' p = some (.lst ((shL i).map V.int)))
    ⟨_, rfl, Same.new (Same.refl H) hp _, upd_same⟩ ?_ ?_⟩
  · rintro i σ H1 hi ⟨o, rfl, sm, hp1⟩
    have en : ((0 : Int) + (i : Int) + 1).toNat = i + 1 := by omega
    refine ⟨_, rfl, .inl ⟨rfl, _, SqL.of hp1⟩, _, rfl, _, _, rfl, rfl, _, rfl, by omega, by omega, ?_⟩
    rw [en]
    intro D hD
    have hpD : p ≠ D := ne_of_none hp1 hD
    refine comp_range (lo := 0) (n := i + 1) (fun j => .int (sh j * sh (i - j))) (sz (by omega)) (fun j H2 R R0 hj hb hR => ?_) ?_
    · have hp2 : H2 p = some (.lst ((shL i).map V.int)) := (hb p hpD).trans hp1
      have l1 : (shL i).length = i + 1 := shL_length i
      have e1 : (shL i).getD ((0 : Int) + (j : Int)).toNat 0 = sh j := by rw [show ((0 : Int) + (j : Int)).toNat = j by omega]; exact shL_get i j (by omega)
      have e2 : (shL i).getD ((0 : Int) + (i : Int) - ((0 : Int) + (j : Int))).toNat 0 = sh (i - j) := by
        rw [show ((0 : Int) + (i : Int) - ((0 : Int) + (j : Int))).toNat = i - j by omega]; exact shL_get i (i - j) (by omega)
      have a1 := atI_int (ns := shL i) (i := (0 : Int) + (j : Int)) (by omega) (by omega)
      have a2 := atI_int (ns := shL i) (i := (0 : Int) + (i : Int) - ((0 : Int) + (j : Int))) (by omega) (by omega)
      rw [e1] at a1
      rw [e2] at a2
      refine ⟨Ext.set rfl, ttN (iteT ?_)⟩
      refine ⟨_, rfl, _, rfl, p, _, _, _, rfl, rfl, SqL.of hp2, a1, _, rfl, _, rfl, _, rfl, _, _, rfl, rfl, p, _, _, _, rfl, rfl, SqL.of hp2, a2, _, _, rfl, rfl, ?_, hR⟩
      exact mul_ok (by omega)
    · have hp3 : upd H1 D (.lst ((List.range (i + 1)).map fun j => V.int (sh j * sh (i - j)))) p = some (.lst ((shL i).map V.int)) := (upd_ne hpD).trans hp1
      refine ⟨D, (List.range (i + 1)).map (fun j => sh j * sh (i - j)), rfl, SqL.of (by rw [upd_same, List.map_map]; rfl), p, _, _, rfl, rfl, hp3, ?_, ?_⟩
      · rw [List.length_map, shL_length]; exact sz' (by omega)
      · refine ⟨_, rfl, ?_, ?_⟩
        · exact (Same.new sm hD _).upd hp _
        · rw [upd_same, shL_snoc, List.map_append, sh_succ]; rfl
  · rintro σ H1 ⟨o, rfl, sm, hp1⟩
    exact ⟨_, rfl, q p H1 sm hp hp1⟩
theorem ok_Turns__SplitFamily_unchecked_thing {er : Errs} (EO : ErrOk K mg er) {ca : ClA} (CA : ClOk K mg ca) {fd : FuncData} (F : Fun K "unchecked_thing" "SplitFamily.unchecked_thing" s_Turns__SplitFamily_unchecked_thing ca.f_Turns__SplitFamily_unchecked_thing fd) {fd0 : FuncData} (d_Turns__SplitFamily_thing_by_parts : MDef P w K mg base ["self", "counts", "size", "number"] 44 (spA_Turns__SplitFamily_thing_by_parts K ca) ca.f_Turns__SplitFamily_thing_by_parts fd0) {f1 : Addr} {fd1 : FuncData} (d_shares : Def P w K mg base "shares" ["most"] 1 (sp_shares K ca) f1 fd1) : FnOk P w K mg base CX0 45 ca.f_Turns__SplitFamily_unchecked_thing fd ["self", "size", "number"] (sp_Turns__SplitFamily_unchecked_thing K ca) := by
  refine F.ok sc_Turns__SplitFamily_unchecked_thing (fun vs H Q E h => ?_) (fun cdv A outer s H vs Q E hr h => ?_)
  · obtain ⟨x, dx, fs, wd, n, m, rfl, hx, fl, n40, m0, m1, q⟩ := h
    rfl
  obtain ⟨x, dx, fs, wd, n, m, rfl, hx, fl, n40, m0, m1, q⟩ := h
  refine ⟨_, pss_one (ps_ret (pmeth (pv 0) CA.c_Turns CA.mt_Turns_thing_by_parts d_Turns__SplitFamily_thing_by_parts hr (pa_cons (pcall d_shares hr (pa_cons (pv 1) pa_nil)) (pa_cons (pv 1) (pa_cons (pv 2) pa_nil))))), ?_⟩
  refine ⟨_, rfl, x, dx, fs, rfl, hx, fl.no "thing_by_parts" (by decide) (by decide), _, rfl, (n : Int), rfl, by omega, by omega, fun pc H1 s1 fc hc => ?_⟩
  rw [Int.toNat_natCast] at hc
  exact ⟨_, rfl, _, rfl, n, by omega, x, dx, fs, wd, pc, n, m, rfl, s1 _ _ hx, fl, hc, Nat.le_refl _, n40, m0, m1, fun v H' s th => q v H' (s1.trans s) th⟩
theorem ok_Turns__Family_thing_of {er : Errs} (EO : ErrOk K mg er) {ca : ClA} (CA : ClOk K mg ca) {fd : FuncData} (F : Fun K "thing_of" "Family.thing_of" s_Turns__Family_thing_of ca.f_Turns__Family_thing_of fd) {fd0 : FuncData} (d_Turns__Family_many : MDef P w K mg base ["self", "size"] 3 (sp_Turns__Family_many K ca er) ca.f_Turns__Family_many fd0) {fd1 : FuncData} (d_Turns__SplitFamily_unchecked_thing : MDef P w K mg base ["self", "size", "number"] 45 (sp_Turns__SplitFamily_unchecked_thing K ca) ca.f_Turns__SplitFamily_unchecked_thing fd1) : FnOk P w K mg base (CX1 P w) 46 ca.f_Turns__Family_thing_of fd ["self", "size", "number"] (sp_Turns__Family_thing_of K ca er) := by
  refine F.okE sc_Turns__Family_thing_of (fun vs H Q E h => ?_) (fun cdv A outer s H vs Q E hr h => ?_)
  · obtain ⟨x, dx, fs, wd, n, m, rfl, hx, fl, q⟩ := h
    rfl
  obtain ⟨x, dx, fs, wd, n, m, rfl, hx, fl, q⟩ := h
  refine ⟨_, pss_cons (ps_set (i := 3) sc_Turns__Family_thing_of.nd rfl (Or.inl rfl) (pmethT thr_def (pv 0) CA.c_Turns CA.mt_Turns_many d_Turns__Family_many hr (pa_cons (pv 1) pa_nil)))
    (pss_cons (ps_if (PW.pt (pw_or (pt_cmpR op_lt (pv 2) pe_int (nomark _)) (pw_or1 (pt_cmpR op_ge (pv 2) (pv 3) (nomark _))))) (pss_one (ps_raise thr_def EO.x_number rfl EO.m_number (pa_cons pe_str pa_nil))) pss_nil)
    (pss_one (ps_ret (pmeth (pv 0) CA.c_Turns CA.mt_Turns_unchecked_thing d_Turns__SplitFamily_unchecked_thing hr (pa_cons (pv 1) (pa_cons (pv 2) pa_nil)))))), ?_⟩
  rcases q with ⟨h, q⟩ | ⟨n1, n40, h, q⟩ | ⟨n1, n40, m0, m1, q⟩
  · exact ⟨_, rfl, x, dx, fs, rfl, hx, fl.no "many" (by decide) (by decide), _, rfl, x, dx, fs, wd, n, rfl, hx, fl, .inl ⟨h, q⟩⟩
  · refine ⟨_, rfl, x, dx, fs, rfl, hx, fl.no "many" (by decide) (by decide), _, rfl, x, dx, fs, wd, n, rfl, hx, fl, .inr ⟨n1, n40, _, rfl, _, _, rfl, rfl, _, rfl, ?_⟩⟩
    by_cases h1 : m < 0
    · exact iteP h1 (iteT ⟨sz (n := 1) (by decide), q⟩)
    · exact iteN h1 ⟨_, rfl, _, rfl, _, _, rfl, rfl, _, rfl, iteP (by omega) ⟨sz (n := 1) (by decide), q⟩⟩
  · refine ⟨_, rfl, x, dx, fs, rfl, hx, fl.no "many" (by decide) (by decide), _, rfl, x, dx, fs, wd, n, rfl, hx, fl, .inr ⟨n1, n40, _, rfl, _, _, rfl, rfl, _, rfl, iteN (by omega) ⟨_, rfl, _, rfl, _, _, rfl, rfl, _, rfl, iteN (by omega) ?_⟩⟩⟩
    refine ⟨_, rfl, x, dx, fs, rfl, hx, fl.no "unchecked_thing" (by decide) (by decide), _, rfl, _, rfl, x, dx, fs, wd, n.toNat, m, ?_, hx, fl, by omega, m0, by rw [sh_cR (by omega)]; exact m1, fun v H' s th => q v H' s th⟩
    rw [Int.toNat_of_nonneg n1]
    rfl
theorem ok_Floors__bare {er : Errs} (EO : ErrOk K mg er) {ca : ClA} (CA : ClOk K mg ca) {fd : FuncData} (F : Fun K "bare" "Floors.bare" s_Floors__bare ca.f_Floors__bare fd) : FnOk P w K mg base CX0 1 ca.f_Floors__bare fd ["self"] (sp_Floors__bare K ca) := by
  refine F.ok sc_Floors__bare (fun vs H Q E h => ?_) (fun cdv A outer s H vs Q E hr h => ?_)
  · obtain ⟨x, rfl, q⟩ := h
    rfl
  obtain ⟨x, rfl, q⟩ := h
  refine ⟨_, pss_one (ps_ret (pe_tup (pa_cons pe_int (pa_cons (pe_lst pa_nil) pa_nil)))), ?_⟩
  have q : ∀ (t p : Addr) (H' : Hp), Same H H' → H t = none → H p = none → H' t = some (.tup [.int 2, .ref p]) → H' p = some (.lst []) → Q (.ref t) H' := fun t p H' s f f' h h' => q _ _ s ⟨t, p, [], rfl, h, ⟨[], h', .nil⟩, ⟨fun p h => (by cases h), .nil, Nat.le_refl _⟩, Nat.le_refl _⟩
  refine ⟨Nat.zero_le _, fun p hp => ⟨(by show 2 ≤ sizeLine; decide), fun t ht => ?_⟩⟩
  have s1 := Same.new (Same.refl H) hp (.lst [])
  have s2 := Same.new s1 ht (.tup [.int 2, .ref p])
  exact q t p _ s2 (s1.free ht) hp upd_same ((upd_ne (ne_of_none upd_same ht)).trans upd_same)
theorem ok_pairs_raised_by {er : Errs} (EO : ErrOk K mg er) {ca : ClA} (CA : ClOk K mg ca) {f : Addr} {fd : FuncData} (F : Fun K "pairs_raised_by" "pairs_raised_by" s_pairs_raised_by f fd) : FnOk P w K mg base CX0 1 f fd ["pairs", "step"] (sp_pairs_raised_by K ca) := by
  refine F.ok sc_pairs_raised_by (fun vs H Q E h => ?_) (fun cdv A outer s H vs Q E hr h => ?_)
  · obtain ⟨l, ps, d, rfl, hl, hz, q⟩ := h
    rfl
  obtain ⟨l, ps, d, rfl, hl, hz, q⟩ := h
  refine ⟨_, pss_one (ps_ret (pe_comp rfl (pi_list (pv 0)) rfl rfl rfl rfl (N := ["a", "b", "step"]) (.own (.own (.cap (j := 1) rfl rfl rfl .nil))) (fun _ _ _ _ _ _ => (pg_tupK (K := K) (n := 2) rfl rfl (pgs_cons (pg_name (i := 0) (by show List.Nodup (["a", "b", "step"] : List Str); decide +kernel) rfl (Or.inl rfl)) (pgs_cons (pg_name (i := 1) (by show List.Nodup (["a", "b", "step"] : List Str); decide +kernel) rfl (Or.inl rfl)) pgs_nil)))) (fun _ _ _ _ _ _ => pts_nil) (fun _ _ _ _ _ _ => (pe_tup (pa_cons (pe_op op_add (pv 0) (pv 2)) (pa_cons (pe_op op_add (pv 1) (pv 2)) pa_nil)))))), ?_⟩
  obtain ⟨xs, el, lxs, pr⟩ := hl.len
  refine ⟨_, rfl, l, rfl, ⟨_, SqL.of el⟩, fun D hD => comp_walk (xs := xs) (fun i ys H' => Same H H' ∧ H' D = some (.lst ys) ∧ Prs H' ys ((ps.take i).map (up d)) ∧ i ≤ ps.length) (sz (by omega)) ⟨Same.new (Same.refl H) hD _, upd_same, .nil, Nat.zero_le _⟩ (fun i ys H' hi h => ⟨SqL.of (h.1 _ _ el), ?_⟩) (fun i x ys H' R R0 hx h r r0 => ?_) (fun ys H' h => ?_)⟩
  · have := h.2.2.1.length
    rw [List.length_map, List.length_take] at this
    omega
  · obtain ⟨sm, hy, py, hi⟩ := h
    obtain ⟨pp, tt, hpp, rfl, htt⟩ := pr.get hx
    have hlt : i < ps.length := (List.getElem?_eq_some_iff.mp hpp).1
    refine ⟨tt, _, rfl, SqT.of (sm _ _ htt), rfl, _, _, rfl, _, _, rfl, rfl, (Ext.set rfl).trans (Ext.set rfl), ttN (iteT ?_)⟩
    refine ⟨_, rfl, _, rfl, _, _, rfl, rfl, _, rfl, _, rfl, _, _, rfl, rfl, (by show 2 ≤ sizeLine; decide), fun t1 ht1 => ?_⟩
    have n1 : D ≠ t1 := ne_of_none hy ht1
    have hy1 := (upd_ne (o := .tup [.int (pp.1 + d), .int (pp.2 + d)]) n1).trans hy
    refine r _ _ hy1 ⟨(Same.new sm ht1 _).upd hD _, upd_same, ?_, hlt⟩
    have := ((py.updN ht1 (.tup [.int (pp.1 + d), .int (pp.2 + d)])).snoc (t := t1) (p := up d pp) upd_same).updL hy1 (.lst (ys ++ [.ref t1]))
    rw [List.take_add_one, hpp, List.map_append]
    exact this
  · obtain ⟨sm, hy, py, hi⟩ := h
    rw [List.take_of_length_le (by omega)] at py
    exact q D H' sm hD ⟨ys, hy, py⟩
theorem ok_Floors__joined {er : Errs} (EO : ErrOk K mg er) {ca : ClA} (CA : ClOk K mg ca) {fd : FuncData} (F : Fun K "joined" "Floors.joined" s_Floors__joined ca.f_Floors__joined fd) {f0 : Addr} {fd0 : FuncData} (d_pairs_raised_by : Def P w K mg base "pairs_raised_by" ["pairs", "step"] 1 (sp_pairs_raised_by K ca) f0 fd0) (m_sorted : mg "sorted" = none) : FnOk P w K mg base CX0 2 ca.f_Floors__joined fd ["self", "left", "right"] (sp_Floors__joined K ca) := by
  refine F.ok sc_Floors__joined (fun vs H Q E h => ?_) (fun cdv A outer s H vs Q E hr h => ?_)
  · obtain ⟨x, dx, fs, wd, vl, vr, i, j, rfl, hx, fl, thl, thr, hij39, q⟩ := h
    rfl
  obtain ⟨x, dx, fs, wd, vl, vr, i, j, rfl, hx, fl, thl, thr, hij39, q⟩ := h
  refine ⟨_, pss_cons (ps_set (i := 3) sc_Floors__joined.nd rfl (Or.inl rfl) (pe_op op_sub (pe_ix ix_tup (pv 1) pe_int (fun _ _ => rfl)) pe_int))
    (pss_cons (ps_set (i := 4) sc_Floors__joined.nd rfl (Or.inl rfl) (pe_op op_sub (pe_op op_add (pv 3) (pe_ix ix_tup (pv 2) pe_int (fun _ _ => rfl))) pe_int))
    (pss_cons (ps_set (i := 5) sc_Floors__joined.nd rfl (Or.inl rfl) (pe_op op_cat (pe_ix ix_tup (pv 1) pe_int (fun _ _ => rfl)) (pcall d_pairs_raised_by hr (pa_cons (pe_ix ix_tup (pv 2) pe_int (fun _ _ => rfl)) (pa_cons (pv 3) pa_nil)))))
    (pss_cut (ps_if (pt_cmpR op_gt (pv 3) pe_int (nomark _)) (pss_one (ps_expr (pe_bm PySem.F.plainAttrs_list PySem.F.slot_list_append PySem.F.type_list_append mt_append (pv 5) (pa_cons (pe_tup (pa_cons pe_int (pa_cons (pv 3) pa_nil))) pa_nil)))) pss_nil)
    (pss_cut (ps_if (pt_cmpR op_gt (pe_op op_sub (pv 4) (pv 3)) pe_int (nomark _)) (pss_one (ps_expr (pe_bm PySem.F.plainAttrs_list PySem.F.slot_list_append PySem.F.type_list_append mt_append (pv 5) (pa_cons (pe_tup (pa_cons (pv 3) (pa_cons (pv 4) pa_nil))) pa_nil)))) pss_nil)
    (pss_one (ps_ret (pe_tup (pa_cons (pe_op op_add (pv 4) pe_int) (pa_cons (pe_callB call_sortedP rfl m_sorted bb_sorted (pa_cons (pv 5) pa_nil)) pa_nil))))))))), ?_⟩
  obtain ⟨tl, l, ps, rfl, htl, hl, fp, lp0⟩ := thl
  obtain ⟨tr, r, qs, rfl, htr, hr2, fq, lq0⟩ := thr
  have hij : i + j ≤ 40 := by omega
  have q : ∀ (t p : Addr) (cs : List Pair) (H' : Hp), Same H H' → H t = none → H p = none → H' t = some (.tup [.int ((i : Int) + (j : Int) + 3), .ref p]) → PLs H' p cs → cs.Perm (joinF i j ps qs) → cs.Pairwise leP → Q (.ref t) H' := fun t p cs H' s f f' h h' pm ri => q _ _ s ⟨t, p, cs, rfl, by rw [h, show (((i + j + 1 : Nat) : Int) + 2) = (i : Int) + (j : Int) + 3 by omega], h', (flo_join fp fq lp0 lq0 pm ri).1, by have := (flo_join fp fq lp0 lq0 pm ri).2; omega⟩
  have lp := fp.len
  have lq := fq.len
  have at0 : ∀ (c : Int) (a : Addr), atI [V.int c, .ref a] 0 = some (.int c) := fun _ _ => rfl
  have at1 : ∀ (c : Int) (a : Addr), atI [V.int c, .ref a] 1 = some (.ref a) := fun _ _ => rfl
  refine ⟨_, rfl, tl, _, _, _, rfl, rfl, SqT.of htl, at0 _ _, _, _, rfl, rfl, ?_⟩
  try dsimp only
  rw [show (i : Int) + 2 - 1 = (i : Int) + 1 by omega]
  refine ⟨_, rfl, _, rfl, tr, _, _, _, rfl, rfl, SqT.of htr, at0 _ _, _, _, rfl, rfl, _, _, rfl, rfl, ?_⟩
  try dsimp only
  rw [show (i : Int) + 1 + ((j : Int) + 2) - 1 = (i : Int) + (j : Int) + 2 by omega]
  refine ⟨_, rfl, tl, _, _, _, rfl, rfl, SqT.of htl, at1 _ _, _, rfl, tr, _, _, _, rfl, rfl, SqT.of htr, at1 _ _, _, rfl, r, qs, _, rfl, hr2, by omega, fun pu H1 s1 fu hu => ?_⟩
  obtain ⟨xs, el, lx, prl⟩ := (hl.same s1).len
  obtain ⟨zs, ez, lz, prz⟩ := hu.len
  rw [List.length_map] at lz
  refine ⟨l, pu, _, _, rfl, rfl, el, ez, sz (by omega), fun pc hpc => ?_⟩
  have s2 := Same.new s1 hpc (.lst (xs ++ zs))
  have fpc : H pc = none := s1.free hpc
  have k2 := Same.new (Same.refl H1) hpc (.lst (xs ++ zs))
  have hc2 : PLs (upd H1 pc (.lst (xs ++ zs))) pc (ps ++ qs.map (up ((i : Int) + 1))) := ⟨_, upd_same, (prl.app prz).same k2⟩
  generalize upd H1 pc (.lst (xs ++ zs)) = H2 at s2 hc2 ⊢
  refine ⟨fun σ H' => σ = [some (.ref x), some (.ref tl), some (.ref tr), some (.int ((i : Int) + 1)), some (.int ((i : Int) + (j : Int) + 2)), some (.ref pc)] ∧ Same H H' ∧ PLs H' pc (ps ++ qs.map (up ((i : Int) + 1)) ++ (if i = 0 then [] else [(0, (i : Int) + 1)])), ?_, ?_⟩
  · refine ⟨_, rfl, _, _, rfl, rfl, _, rfl, ?_⟩
    by_cases h : (i : Int) + 1 > 1
    · refine iteP h ?_
      obtain ⟨ys, ey, ly, pry⟩ := hc2.len
      simp only [List.length_append, List.length_map] at ly
      refine ⟨_, rfl, .inl ⟨rfl, _, SqL.of ey⟩, _, rfl, (by show 2 ≤ sizeLine; decide), fun t1 ht1 => ?_⟩
      refine ⟨pc, _, _, rfl, rfl, (upd_ne (ne_of_none ey ht1)).trans ey, sz' (by omega), rfl, (Same.new s2 ht1 _).upd fpc _, ?_⟩
      rw [if_neg (by omega)]
      exact PLs.push ey pry ht1
    · refine iteN h ⟨rfl, s2, ?_⟩
      rw [if_pos (by omega), List.append_nil]
      exact hc2
  rintro σ H3 ⟨rfl, s3, hc3⟩
  refine ⟨fun σ H' => σ = [some (.ref x), some (.ref tl), some (.ref tr), some (.int ((i : Int) + 1)), some (.int ((i : Int) + (j : Int) + 2)), some (.ref pc)] ∧ Same H H' ∧ PLs H' pc (ps ++ qs.map (up ((i : Int) + 1)) ++ (if i = 0 then [] else [(0, (i : Int) + 1)]) ++ (if j = 0 then [] else [((i : Int) + 1, (i : Int) + (j : Int) + 2)])), ?_, ?_⟩
  · refine ⟨_, rfl, _, rfl, _, _, rfl, rfl, _, _, rfl, rfl, _, rfl, ?_⟩
    by_cases h : (i : Int) + (j : Int) + 2 - ((i : Int) + 1) > 1
    · refine iteP h ?_
      obtain ⟨ys, ey, ly, pry⟩ := hc3.len
      have l1 : (if i = 0 then ([] : List Pair) else [(0, (i : Int) + 1)]).length ≤ 1 := by split <;> simp
      simp only [List.length_append, List.length_map] at ly
      refine ⟨_, rfl, .inl ⟨rfl, _, SqL.of ey⟩, _, rfl, _, rfl, (by show 2 ≤ sizeLine; decide), fun t1 ht1 => ?_⟩
      refine ⟨pc, _, _, rfl, rfl, (upd_ne (ne_of_none ey ht1)).trans ey, sz' (by omega), rfl, (Same.new s3 ht1 _).upd fpc _, ?_⟩
      rw [if_neg (show ¬ j = 0 by omega)]
      exact PLs.push ey pry ht1
    · refine iteN h ⟨rfl, s3, ?_⟩
      rw [if_pos (show j = 0 by omega), List.append_nil]
      exact hc3
  rintro σ H4 ⟨rfl, s4, hc4⟩
  have pm4 : (ps ++ qs.map (up ((i : Int) + 1)) ++ (if i = 0 then [] else [(0, (i : Int) + 1)]) ++ (if j = 0 then [] else [((i : Int) + 1, (i : Int) + (j : Int) + 2)])).Perm (joinF i j ps qs) := by
    unfold joinF sides
    rw [List.append_assoc, List.append_assoc, List.append_assoc]
    refine List.Perm.append_left ps ?_
    exact List.perm_append_comm
  have l4 := pm4.length_eq
  have l5 := joinF_len fp fq
  refine ⟨_, rfl, _, _, rfl, rfl, _, rfl, pc, _, rfl, hc4, by omega, fun p cs H5 s5 fp5 hp5 pm5 rs5 => ⟨(by show 2 ≤ sizeLine; decide), fun t ht => ?_⟩⟩
  have s45 := s4.trans s5
  have s6 := Same.new (Same.refl H5) ht (.tup [.int ((i : Int) + (j : Int) + 2 + 1), .ref p])
  have h6 : upd H5 t (.tup [.int ((i : Int) + (j : Int) + 2 + 1), .ref p]) t = some (.tup [.int ((i : Int) + (j : Int) + 3), .ref p]) := by rw [upd_same, show (i : Int) + (j : Int) + 2 + 1 = (i : Int) + (j : Int) + 3 by omega]
  exact q t p cs _ (s45.trans s6) (s45.free ht) (s4.free fp5) h6 (hp5.same s6) (pm5.trans pm4) rs5
theorem ok_Floors__SplitFamily_thing_by_parts {er : Errs} (EO : ErrOk K mg er) {ca : ClA} (CA : ClOk K mg ca) {fd : FuncData} (F : Fun K "thing_by_parts" "SplitFamily.thing_by_parts" s_Floors__SplitFamily_thing_by_parts ca.f_Floors__SplitFamily_thing_by_parts fd) {fd0 : FuncData} (d_Floors__bare : MDef P w K mg base ["self"] 1 (sp_Floors__bare K ca) ca.f_Floors__bare fd0) {fd2 : FuncData} (d_Floors__joined : MDef P w K mg base ["self", "left", "right"] 2 (sp_Floors__joined K ca) ca.f_Floors__joined fd2) (n : Nat) (d_self : MDef P w K mg base ["self", "counts", "size", "number"] (2 + n) (below n fun m => sp_Floors__SplitFamily_thing_by_parts K ca m) ca.f_Floors__SplitFamily_thing_by_parts fd) : FnOk P w K mg base (CX1 P w) (2 + n + 1) ca.f_Floors__SplitFamily_thing_by_parts fd ["self", "counts", "size", "number"] (sp_Floors__SplitFamily_thing_by_parts K ca n) := by
  refine FnOk.up ?_
  refine F.ok sc_Floors__SplitFamily_thing_by_parts (fun vs H Q E h => ?_) (fun cdv A outer s H vs Q E hr h => ?_)
  · obtain ⟨x, dx, fs, wd, pc, k, m, rfl, hx, fl, hc, hk, k40, m0, m1, q⟩ := h
    rfl
  obtain ⟨x, dx, fs, wd, pc, k, m, rfl, hx, fl, hc, hk, k40, m0, m1, q⟩ := h
  refine ⟨_, pss_cons (ps_if (pt_cmpR op_eq (pv 2) pe_int (nomark _)) (pss_one (ps_ret (pmeth0 (pv 0) CA.c_Floors CA.mt_Floors_bare d_Floors__bare hr (hjk := by omega)))) pss_nil)
    (pss_cons (ps_set (i := 4) sc_Floors__SplitFamily_thing_by_parts.nd rfl (Or.inl rfl) pe_int)
    (pss_cons (ps_set (i := 5) sc_Floors__SplitFamily_thing_by_parts.nd rfl (Or.inl rfl) (pv 3))
    (pss_cons (ps_while PassesOwn.never (pt_cmpR op_ge (pv 5) (pe_op op_mul (pe_ix ix_list (pv 1) (pv 4) (fun _ _ => rfl)) (pe_ix ix_list (pv 1) (pe_op op_sub (pe_op op_sub (pv 2) pe_int) (pv 4)) (fun _ _ => rfl))) (nomark _)) (pss_cons (ps_aug (i := 5) sc_Floors__SplitFamily_thing_by_parts.nd rfl (Or.inl rfl) (pe_op op_mul (pe_ix ix_list (pv 1) (pv 4) (fun _ _ => rfl)) (pe_ix ix_list (pv 1) (pe_op op_sub (pe_op op_sub (pv 2) pe_int) (pv 4)) (fun _ _ => rfl))) ip_sub)
    (pss_one (ps_aug (i := 4) sc_Floors__SplitFamily_thing_by_parts.nd rfl (Or.inl rfl) pe_int ip_add))))
    (pss_cons (ps_set (i := 6) sc_Floors__SplitFamily_thing_by_parts.nd rfl (Or.inl rfl) (pe_op op_sub (pe_op op_sub (pv 2) pe_int) (pv 4)))
    (pss_cons (ps_set (i := 7) sc_Floors__SplitFamily_thing_by_parts.nd rfl (Or.inl rfl) (pmeth (pv 0) CA.c_Floors CA.mt_Floors_thing_by_parts d_self hr (pa_cons (pv 1) (pa_cons (pv 4) (pa_cons (pe_op op_fdivL (pv 5) (pe_ix ix_list (pv 1) (pv 6) (fun _ _ => rfl))) pa_nil))) (hjk := by omega)))
    (pss_cons (ps_set (i := 8) sc_Floors__SplitFamily_thing_by_parts.nd rfl (Or.inl rfl) (pmeth (pv 0) CA.c_Floors CA.mt_Floors_thing_by_parts d_self hr (pa_cons (pv 1) (pa_cons (pv 6) (pa_cons (pe_op op_mod (pv 5) (pe_ix ix_list (pv 1) (pv 6) (fun _ _ => rfl))) pa_nil))) (hjk := by omega)))
    (pss_one (ps_ret (pmeth (pv 0) CA.c_Floors CA.mt_Floors_joined d_Floors__joined hr (pa_cons (pv 7) (pa_cons (pv 8) pa_nil)) (hjk := by omega)))))))))), ?_⟩
  refine ⟨_, rfl, rfl, _, rfl, ?_⟩
  by_cases h0 : n = 0
  · subst h0
    exact iteP rfl ⟨_, rfl, x, dx, fs, rfl, hx, fl.no "bare" (by decide) (by decide), x, rfl, fun v H' s th => q v H' s th⟩
  refine iteN (fun z => h0 (by injection z with z; omega)) ⟨_, rfl, ?_⟩
  have lk : (shL k).length = k + 1 := shL_length k
  have at_ : ∀ (j : Nat) (z : Int), z = (j : Int) → j ≤ k → atI ((shL k).map V.int) z = some (.int (sh j)) := fun j z ez hj => by
    have := atI_int (ns := shL k) (i := z) (by omega) (by omega)
    rw [show z.toNat = j by omega, shL_get k j hj] at this
    exact this
  have all : pre n n = sh n := by
    obtain ⟨a, rfl⟩ : ∃ a, n = a + 1 := ⟨n - 1, by omega⟩
    exact pre_all a
  refine ⟨fun mm σ H5 => ∃ (o1 o2 o3 : Option V) (j : Nat), σ = [some (.ref x), some (.ref pc), some (.int (n : Int)), some (.int m), some (.int (j : Int)), some (.int (m - pre n j)), o1, o2, o3] ∧ H = H5 ∧ j < n ∧ pre n j ≤ m ∧ mm = n - j, ⟨_, _, _, _, 0, by rw [show pre n 0 = 0 from rfl, Int.sub_zero]; rfl, rfl, by omega, m0, rfl⟩, ?_⟩
  rintro mm σ H5 ⟨o1, o2, o3, j, rfl, rfl, hj, hle, rfl⟩
  have p1 := sh_pos j
  have p2 := sh_pos (n - 1 - j)
  have a1 := at_ j (j : Int) rfl (by omega)
  have a2 := at_ (n - 1 - j) ((n : Int) - 1 - (j : Int)) (by omega) (by omega)
  have mc : CMul (sh j) (sh (n - 1 - j)) := mulC (a := j) (b := n - 1 - j) (by omega) (by omega) (Int.le_refl _) (by omega) (Int.le_refl _)
  refine ⟨_, rfl, _, rfl, _, rfl, pc, _, _, _, rfl, rfl, SqL.of hc, a1, _, rfl, _, rfl, _, _, rfl, rfl, _, rfl, _, _, rfl, rfl, pc, _, _, _, rfl, rfl, SqL.of hc, a2, _, _, rfl, rfl, mc, _, _, rfl, rfl, _, rfl, ?_⟩
  have ps := pre_succ n j
  by_cases h : m - pre n j ≥ sh j * sh (n - 1 - j)
  · have hj1 : j + 1 < n := by
      by_cases z : j + 1 = n
      · rw [z, all] at ps; omega
      · omega
    refine iteP h ⟨fun σ' H6 => σ' = [some (.ref x), some (.ref pc), some (.int (n : Int)), some (.int m), some (.int ((j : Int) + 1)), some (.int (m - pre n j - sh j * sh (n - 1 - j))), o1, o2, o3] ∧ H = H6, ?_, ?_⟩
    · rintro σ' H6 ⟨rfl, rfl⟩
      refine ⟨n - (j + 1), by omega, o1, o2, o3, j + 1, ?_, rfl, hj1, by omega, rfl⟩
      rw [show m - pre n (j + 1) = m - pre n j - sh j * sh (n - 1 - j) by omega]
      rfl
    · exact ⟨_, rfl, _, rfl, _, rfl, pc, _, _, _, rfl, rfl, SqL.of hc, a1, _, rfl, _, rfl, _, _, rfl, rfl, _, rfl, _, _, rfl, rfl, pc, _, _, _, rfl, rfl, SqL.of hc, a2, _, _, rfl, rfl, mc, _, _, rfl, rfl, _, rfl, _, _, rfl, rfl, rfl, rfl⟩
  refine iteN h ⟨_, rfl, _, _, rfl, rfl, _, rfl, _, _, rfl, rfl, ?_⟩
  try dsimp only
  have eb : (n : Int) - 1 - (j : Int) = ((n - 1 - j : Nat) : Int) := by omega
  rw [eb]
  generalize hR : m - pre n j = R at h
  have R0 : 0 ≤ R := by omega
  have d0 : 0 ≤ R / sh (n - 1 - j) := Int.ediv_nonneg R0 (by omega)
  have d1 : R / sh (n - 1 - j) < sh j := Int.ediv_lt_of_lt_mul (by omega) (by omega)
  have e0 := Int.emod_nonneg R (show sh (n - 1 - j) ≠ 0 by omega)
  have e1 := Int.emod_lt_of_pos R (show 0 < sh (n - 1 - j) by omega)
  have a3 := at_ (n - 1 - j) ((n - 1 - j : Nat) : Int) rfl (by omega)
  refine ⟨_, rfl, x, dx, fs, rfl, hx, fl.no "thing_by_parts" (by decide) (by decide), _, rfl, _, rfl, _, rfl, _, rfl, _, rfl, pc, _, _, _, rfl, rfl, SqL.of hc, a3, _, _, rfl, rfl, divB (by omega) (sh_big (by omega)), j, by omega, x, dx, fs, wd, pc, k, R / sh (n - 1 - j), rfl, hx, fl, hc, by omega, k40, d0, d1, fun vl H1 s1 th1 => ?_⟩
  refine ⟨_, rfl, x, dx, fs, rfl, s1 _ _ hx, fl.no "thing_by_parts" (by decide) (by decide), _, rfl, _, rfl, _, rfl, _, rfl, _, rfl, pc, _, _, _, rfl, rfl, SqL.of (s1 _ _ hc), a3, _, _, rfl, rfl, by omega, n - 1 - j, by omega, x, dx, fs, wd, pc, k, R % sh (n - 1 - j), rfl, s1 _ _ hx, fl, s1 _ _ hc, by omega, k40, e0, e1, fun vr H2 s2 th2 => ?_⟩
  have s12 := s1.trans s2
  refine ⟨_, rfl, x, dx, fs, rfl, s12 _ _ hx, fl.no "joined" (by decide) (by decide), _, rfl, _, rfl, x, dx, fs, wd, vl, vr, j, n - 1 - j, rfl, s12 _ _ hx, fl, th1.same s2, th2, by omega, fun v H' s th => ?_⟩
  rw [show j + (n - 1 - j) + 1 = n by omega] at th
  exact q v H' (s12.trans s) th
theorem ok_Floors__SplitFamily_unchecked_thing {er : Errs} (EO : ErrOk K mg er) {ca : ClA} (CA : ClOk K mg ca) {fd : FuncData} (F : Fun K "unchecked_thing" "SplitFamily.unchecked_thing" s_Floors__SplitFamily_unchecked_thing ca.f_Floors__SplitFamily_unchecked_thing fd) {fd0 : FuncData} (d_Floors__SplitFamily_thing_by_parts : MDef P w K mg base ["self", "counts", "size", "number"] 44 (spA_Floors__SplitFamily_thing_by_parts K ca) ca.f_Floors__SplitFamily_thing_by_parts fd0) {f1 : Addr} {fd1 : FuncData} (d_shares : Def P w K mg base "shares" ["most"] 1 (sp_shares K ca) f1 fd1) : FnOk P w K mg base CX0 45 ca.f_Floors__SplitFamily_unchecked_thing fd ["self", "size", "number"] (sp_Floors__SplitFamily_unchecked_thing K ca) := by
  refine F.ok sc_Floors__SplitFamily_unchecked_thing (fun vs H Q E h => ?_) (fun cdv A outer s H vs Q E hr h => ?_)
  · obtain ⟨x, dx, fs, wd, n, m, rfl, hx, fl, n40, m0, m1, q⟩ := h
    rfl
  obtain ⟨x, dx, fs, wd, n, m, rfl, hx, fl, n40, m0, m1, q⟩ := h
  refine ⟨_, pss_one (ps_ret (pmeth (pv 0) CA.c_Floors CA.mt_Floors_thing_by_parts d_Floors__SplitFamily_thing_by_parts hr (pa_cons (pcall d_shares hr (pa_cons (pv 1) pa_nil)) (pa_cons (pv 1) (pa_cons (pv 2) pa_nil))))), ?_⟩
  refine ⟨_, rfl, x, dx, fs, rfl, hx, fl.no "thing_by_parts" (by decide) (by decide), _, rfl, (n : Int), rfl, by omega, by omega, fun pc H1 s1 fc hc => ?_⟩
  rw [Int.toNat_natCast] at hc
  exact ⟨_, rfl, _, rfl, n, by omega, x, dx, fs, wd, pc, n, m, rfl, s1 _ _ hx, fl, hc, Nat.le_refl _, n40, m0, m1, fun v H' s th => q v H' (s1.trans s) th⟩
theorem ok_Floors__Family_thing_of {er : Errs} (EO : ErrOk K mg er) {ca : ClA} (CA : ClOk K mg ca) {fd : FuncData} (F : Fun K "thing_of" "Family.thing_of" s_Floors__Family_thing_of ca.f_Floors__Family_thing_of fd) {fd0 : FuncData} (d_Floors__Family_many : MDef P w K mg base ["self", "size"] 3 (sp_Floors__Family_many K ca er) ca.f_Floors__Family_many fd0) {fd1 : FuncData} (d_Floors__SplitFamily_unchecked_thing : MDef P w K mg base ["self", "size", "number"] 45 (sp_Floors__SplitFamily_unchecked_thing K ca) ca.f_Floors__SplitFamily_unchecked_thing fd1) : FnOk P w K mg base (CX1 P w) 46 ca.f_Floors__Family_thing_of fd ["self", "size", "number"] (sp_Floors__Family_thing_of K ca er) := by
  refine F.okE sc_Floors__Family_thing_of (fun vs H Q E h => ?_) (fun cdv A outer s H vs Q E hr h => ?_)
  · obtain ⟨x, dx, fs, wd, n, m, rfl, hx, fl, q⟩ := h
    rfl
  obtain ⟨x, dx, fs, wd, n, m, rfl, hx, fl, q⟩ := h
  refine ⟨_, pss_cons (ps_set (i := 3) sc_Floors__Family_thing_of.nd rfl (Or.inl rfl) (pmethT thr_def (pv 0) CA.c_Floors CA.mt_Floors_many d_Floors__Family_many hr (pa_cons (pv 1) pa_nil)))
    (pss_cons (ps_if (PW.pt (pw_or (pt_cmpR op_lt (pv 2) pe_int (nomark _)) (pw_or1 (pt_cmpR op_ge (pv 2) (pv 3) (nomark _))))) (pss_one (ps_raise thr_def EO.x_number rfl EO.m_number (pa_cons pe_str pa_nil))) pss_nil)
    (pss_one (ps_ret (pmeth (pv 0) CA.c_Floors CA.mt_Floors_unchecked_thing d_Floors__SplitFamily_unchecked_thing hr (pa_cons (pv 1) (pa_cons (pv 2) pa_nil)))))), ?_⟩
  rcases q with ⟨h, q⟩ | ⟨n1, n40, h, q⟩ | ⟨n1, n40, m0, m1, q⟩
  · exact ⟨_, rfl, x, dx, fs, rfl, hx, fl.no "many" (by decide) (by decide), _, rfl, x, dx, fs, wd, n, rfl, hx, fl, .inl ⟨h, q⟩⟩
  · refine ⟨_, rfl, x, dx, fs, rfl, hx, fl.no "many" (by decide) (by decide), _, rfl, x, dx, fs, wd, n, rfl, hx, fl, .inr ⟨n1, n40, _, rfl, _, _, rfl, rfl, _, rfl, ?_⟩⟩
    by_cases h1 : m < 0
    · exact iteP h1 (iteT ⟨sz (n := 1) (by decide), q⟩)
    · exact iteN h1 ⟨_, rfl, _, rfl, _, _, rfl, rfl, _, rfl, iteP (by omega) ⟨sz (n := 1) (by decide), q⟩⟩
  · refine ⟨_, rfl, x, dx, fs, rfl, hx, fl.no "many" (by decide) (by decide), _, rfl, x, dx, fs, wd, n, rfl, hx, fl, .inr ⟨n1, n40, _, rfl, _, _, rfl, rfl, _, rfl, iteN (by omega) ⟨_, rfl, _, rfl, _, _, rfl, rfl, _, rfl, iteN (by omega) ?_⟩⟩⟩
    refine ⟨_, rfl, x, dx, fs, rfl, hx, fl.no "unchecked_thing" (by decide) (by decide), _, rfl, _, rfl, x, dx, fs, wd, n.toNat, m, ?_, hx, fl, by omega, m0, by rw [sh_cR (by omega)]; exact m1, fun v H' s th => q v H' s th⟩
    rw [Int.toNat_of_nonneg n1]
    rfl
theorem ok_Rooms__bare {er : Errs} (EO : ErrOk K mg er) {ca : ClA} (CA : ClOk K mg ca) {fd : FuncData} (F : Fun K "bare" "Rooms.bare" s_Rooms__bare ca.f_Rooms__bare fd) : FnOk P w K mg base CX0 1 ca.f_Rooms__bare fd ["self"] (sp_Rooms__bare K ca) := by
  refine F.ok sc_Rooms__bare (fun vs H Q E h => ?_) (fun cdv A outer s H vs Q E hr h => ?_)
  · obtain ⟨x, rfl, q⟩ := h
    rfl
  obtain ⟨x, rfl, q⟩ := h
  refine ⟨_, pss_one (ps_ret (pe_lst pa_nil)), ?_⟩
  have q : ∀ (p : Addr) (H' : Hp), Same H H' → H p = none → H' p = some (.lst []) → Q (.ref p) H' := fun p H' s f h => q _ _ s ⟨p, H, [], rfl, LLs.nil h, rms_nil⟩
  exact ⟨Nat.zero_le _, fun p hp => q p _ (Same.new (Same.refl H) hp _) hp upd_same⟩
theorem ok_Rooms__size_of {er : Errs} (EO : ErrOk K mg er) {ca : ClA} (CA : ClOk K mg ca) {fd : FuncData} (F : Fun K "size_of" "Rooms.size_of" s_Rooms__size_of ca.f_Rooms__size_of fd) (m_sum : mg "sum" = none) (m_len : mg "len" = none) : FnOk P w K mg base CX0 1 ca.f_Rooms__size_of fd ["self", "thing"] (sp_Rooms__size_of K ca) := by
  refine F.ok sc_Rooms__size_of (fun vs H Q E h => ?_) (fun cdv A outer s H vs Q E hr h => ?_)
  · obtain ⟨x, v, i, rfl, th, hi40, q⟩ := h
    rfl
  obtain ⟨x, v, i, rfl, th, hi40, q⟩ := h
  refine ⟨_, pss_one (ps_ret (pe_callB (call_sum rfl) rfl m_sum bb_sum (pa_cons (pe_comp rfl (pi_list (pv 1)) rfl rfl rfl rfl (N := ["room"]) (.own .nil) (fun _ _ _ _ _ _ => (pg_name (i := 0) (by show List.Nodup (["room"] : List Str); decide +kernel) rfl (Or.inl rfl))) (fun _ _ _ _ _ _ => pts_nil) (fun _ _ _ _ _ _ => (pe_callB (call_len_seqK (K := K) rfl) rfl m_len bb_len (pa_cons (pv 0) pa_nil)))) pa_nil))), ?_⟩
  have hi : i ≤ 1000 := by omega
  obtain ⟨l, Ha, ls, rfl, hl, rm⟩ := th
  obtain ⟨xs, el, lxs⟩ := hl.len
  have ln := rm.lens
  refine ⟨_, rfl, l, rfl, ⟨_, SqL.of el⟩, fun D hD => comp_walk (xs := xs) (fun k ys H' => Same H H' ∧ H' D = some (.lst ys) ∧ ys = ((ls.take k).map fun r => (r.length : Int)).map V.int ∧ k ≤ ls.length) (sz (by omega)) ⟨Same.new (Same.refl H) hD _, upd_same, rfl, Nat.zero_le _⟩ (fun k ys H' hk h => ⟨SqL.of (h.1 _ _ el), ?_⟩) (fun k v ys H' R R0 hx h r r0 => ?_) (fun ys H' h => ?_)⟩
  · rw [h.2.2.1, List.length_map, List.length_map, List.length_take]; omega
  · obtain ⟨sm, hy, ey, hk⟩ := h
    obtain ⟨b, ns, rfl, hn, hb, _⟩ := hl.at el hx
    have hlt : k < ls.length := (List.getElem?_eq_some_iff.mp hn).1
    refine ⟨Ext.set rfl, ttN (iteT ⟨_, rfl, b, _, rfl, .inl (SqL.of (sm _ _ hb)), r _ _ hy ⟨sm.upd hD _, upd_same, ?_, hlt⟩⟩)⟩
    rw [List.take_add_one, hn, List.map_append, List.map_append, ← ey, List.length_map]
    rfl
  · obtain ⟨sm, hy, ey, hk⟩ := h
    rw [List.take_of_length_le (by omega)] at ey
    rw [ey] at hy
    refine ⟨D, _, rfl, SqL.of hy, ?_⟩
    rw [rm.size]
    exact q _ sm
theorem ok_Rooms__joined {er : Errs} (EO : ErrOk K mg er) {ca : ClA} (CA : ClOk K mg ca) {fd : FuncData} (F : Fun K "joined" "Rooms.joined" s_Rooms__joined ca.f_Rooms__joined fd) {fd0 : FuncData} (d_Rooms__size_of : MDef P w K mg base ["self", "thing"] 1 (sp_Rooms__size_of K ca) ca.f_Rooms__size_of fd0) {f1 : Addr} {fd1 : FuncData} (d_raised_by : Def P w K mg base "raised_by" ["numbers", "step"] 1 (sp_raised_by K ca) f1 fd1) : FnOk P w K mg base CX0 2 ca.f_Rooms__joined fd ["self", "left", "right"] (sp_Rooms__joined K ca) := by
  refine F.ok sc_Rooms__joined (fun vs H Q E h => ?_) (fun cdv A outer s H vs Q E hr h => ?_)
  · obtain ⟨x, dx, fs, wd, vl, vr, i, j, rfl, hx, fl, thl, thr, hij39, q⟩ := h
    rfl
  obtain ⟨x, dx, fs, wd, vl, vr, i, j, rfl, hx, fl, thl, thr, hij39, q⟩ := h
  refine ⟨_, pss_cons (ps_set (i := 3) sc_Rooms__joined.nd rfl (Or.inr rfl) (pmeth (pv 0) CA.c_Rooms CA.mt_Rooms_size_of d_Rooms__size_of hr (pa_cons (pv 1) pa_nil)))
    (pss_cons (ps_set (i := 4) sc_Rooms__joined.nd rfl (Or.inl rfl) (pe_lst (pa_cons pe_int pa_nil)))
    (pss_cons (ps_set (i := 5) sc_Rooms__joined.nd rfl (Or.inl rfl) (pe_lst pa_nil))
    (pss_cons (ps_for PassesOwn.never rfl (pi_list (pv 1)) (pg_name (i := 6) sc_Rooms__joined.nd rfl (Or.inl rfl)) (pss_one (ps_if (pt_cmpR op_eq (pe_ix ix_list (pv 6) (pe_un un_neg pe_int) (fun _ _ => rfl)) (pe_op op_sub (pv 3) pe_int) (nomark _)) (pss_one (ps_expr (pe_bm PySem.F.plainAttrs_list PySem.F.slot_list_extend PySem.F.type_list_extend mt_extend (pv 4) (pa_cons (pcall d_raised_by hr (pa_cons (pv 6) (pa_cons pe_int pa_nil))) pa_nil)))) (pss_one (ps_expr (pe_bm PySem.F.plainAttrs_list PySem.F.slot_list_append PySem.F.type_list_append mt_append (pv 5) (pa_cons (pcall d_raised_by hr (pa_cons (pv 6) (pa_cons pe_int pa_nil))) pa_nil)))))))
    (pss_one (ps_ret (pe_op op_cat (pe_op op_cat (pe_lst (pa_cons (pv 4) pa_nil)) (pv 5)) (pe_comp rfl (pi_list (pv 2)) rfl rfl rfl rfl (N := ["room", "left_size"]) (.own (.cap (j := 3) rfl rfl rfl .nil)) (fun _ _ _ _ _ _ => (pg_name (i := 0) (by show List.Nodup (["room", "left_size"] : List Str); decide +kernel) rfl (Or.inl rfl))) (fun _ _ _ _ _ _ => pts_nil) (fun _ _ _ _ _ _ => (pcall d_raised_by hr (pa_cons (pv 0) (pa_cons (pe_op op_add (pv 1) pe_int) pa_nil))))))))))), ?_⟩
  obtain ⟨l, Ha, ls, rfl, hl, rm⟩ := thl
  obtain ⟨r, Hb, rs, rfl, hr2, rm2⟩ := thr
  have hij : i + j ≤ 40 := by omega
  have fno : fs.lookup ("size_of" : Str) = none := fl.no "size_of" (by decide) (by decide)
  have q : ∀ (p : Addr) (H' : Hp), Same H H' → H p = none → LLs H H' p (joinR i ls rs) → Q (.ref p) H' := fun p H' s f h => q _ _ s ⟨p, H, _, rfl, h, rm.join rm2⟩
  obtain ⟨xs, el, lxs⟩ := hl.len
  obtain ⟨zs, ez, lzs⟩ := hr2.len
  have ln := rm.lens
  have ln2 := rm2.lens
  refine ⟨_, rfl, x, dx, fs, rfl, hx, fno, _, rfl, x, .ref l, i, rfl, ⟨l, Ha, ls, rfl, hl, rm⟩, by omega, fun H1 s1 => ?_⟩
  refine ⟨(by show 1 ≤ sizeLine; decide), fun pf hpf => ⟨Nat.zero_le _, fun po hpo => ?_⟩⟩
  have k2 := Same.new s1 hpf (.lst [.int 0])
  have s3 := Same.new k2 hpo (.lst [])
  have fpf : H pf = none := s1.free hpf
  have fpo : H po = none := k2.free hpo
  have nfo : pf ≠ po := ne_of_none upd_same hpo
  have h3f : upd (upd H1 pf (.lst [.int 0])) po (.lst []) pf = some (.lst [.int 0]) := (upd_ne nfo).trans upd_same
  have h3o : upd (upd H1 pf (.lst [.int 0])) po (.lst []) po = some (.lst []) := upd_same
  generalize upd (upd H1 pf (.lst [.int 0])) po (.lst []) = H3 at s3 h3f h3o ⊢
  refine ⟨_, rfl, l, rfl, ⟨_, SqL.of (s3 _ _ el)⟩, for_list (xs := xs) (fun k σ H' => ∃ (o : Option V), σ = [some (.ref x), some (.ref l), some (.ref r), some (.int (i : Int)), some (.ref pf), some (.ref po), o] ∧ Same H H' ∧ Stay H3 H' ∧ H' pf = some (.lst (((0 : Int) :: rai 1 ((ls.take k).filter (isG i)).flatten).map V.int)) ∧ LLs H3 H' po (((ls.take k).filter fun r => !isG i r).map (rai 1)) ∧ k ≤ ls.length) ⟨_, rfl, s3, Stay.refl H3, h3f, LLs.nil h3o, Nat.zero_le _⟩ (fun k σ H' _ h => by obtain ⟨o, _, sm, _⟩ := h; exact SqL.of (sm _ _ el)) ?_ ?_⟩
  · rintro k v σ H' hv ⟨o, rfl, sm, st, hf, ho, hk⟩
    obtain ⟨b, ns, rfl, hn, hb, _⟩ := hl.at el hv
    have hlt : k < ls.length := (List.getElem?_eq_some_iff.mp hn).1
    have hm : ns ∈ ls := List.mem_of_getElem? hn
    have lns := ln.2 ns hm
    have tk := filter_takeR (f := isG i) hn
    have tk2 := filter_takeR (f := fun r => !isG i r) hn
    refine ⟨_, rfl, _, rfl, b, _, _, _, rfl, rfl, SqL.of (sm _ _ hb), atI_lastD (rm.ne ns hm), _, rfl, _, _, rfl, rfl, rfl, _, rfl, ?_⟩
    by_cases g : ns.getD (ns.length - 1) 0 = (i : Int) - 1
    · have hg : isG i ns = true := decide_eq_true g
      have e0 := great_first rm hn hg
      rw [e0] at hf
      refine iteP (congrArg V.int g) ⟨_, rfl, .inl ⟨rfl, _, SqL.of hf⟩, _, rfl, b, ns, 1, rfl, SqL.of (sm _ _ hb), by omega, fun c H5 s5 fc hc => ⟨pf, c, _, _, rfl, rfl, s5 _ _ hf, hc, ?_, ?_⟩⟩
      · simp only [List.length_map, List.flatten_nil, List.length_cons]; exact sz (by unfold rai; simp; omega)
      refine ⟨_, rfl, (sm.trans s5).upd fpf _, (st.same s5).upd pf _, ?_, ?_, hlt⟩
      · rw [upd_same, tk, if_pos hg, e0, List.nil_append, ← List.map_append]
        unfold rai
        simp
      · rw [tk2, if_neg (by rw [hg]; decide), List.append_nil]
        exact (ho.same s5).updC h3f (Ne.symm nfo)
    · have hg : ¬ isG i ns = true := fun z => g (of_decide_eq_true z)
      have hg' : (!isG i ns) = true := by cases e : isG i ns with
        | true => exact absurd e hg
        | false => rfl
      obtain ⟨ys, ey, ly⟩ := ho.len
      have lf := List.length_filter_le (fun r => !isG i r) (ls.take k)
      rw [List.length_map] at ly
      rw [List.length_take] at lf
      refine iteN (fun z => g (by injection z)) ⟨_, rfl, .inl ⟨rfl, _, SqL.of ey⟩, _, rfl, b, ns, 1, rfl, SqL.of (sm _ _ hb), by omega, fun c H5 s5 fc hc => ⟨po, _, _, rfl, rfl, s5 _ _ ey, sz' (by omega), ?_⟩⟩
      refine ⟨_, rfl, (sm.trans s5).upd fpo _, (st.same s5).upd po _, ?_, ?_, hlt⟩
      · rw [upd_ne nfo, tk, if_neg hg, List.append_nil]
        exact s5 _ _ hf
      · rw [tk2, if_pos hg', List.map_append]
        exact ho.push ey s5 fc hc (st.free' fc)
  · rintro σ H5 ⟨o, rfl, sm, st, hf, ho, hk⟩
    rw [List.take_of_length_le (by omega)] at hf ho
    refine ⟨_, rfl, (by show 1 ≤ sizeLine; decide), fun p1 hp1 => ?_⟩
    have k6 := Same.new (Same.refl H5) hp1 (.lst [.ref pf])
    have nf1 : pf ≠ p1 := ne_of_none hf hp1
    have l1 : LLs H (upd H5 p1 (.lst [.ref pf])) p1 [(0 : Int) :: rai 1 (ls.filter (isG i)).flatten] := ⟨[pf], upd_same, .cons ⟨(upd_ne nf1).trans hf, fpf, nf1⟩ .nil, by simp⟩
    have h1 : upd H5 p1 (.lst [.ref pf]) p1 = some (.lst [.ref pf]) := upd_same
    have lo := ho.same k6
    have s6 := sm.trans k6
    generalize upd H5 p1 (.lst [.ref pf]) = H6 at l1 h1 lo s6 ⊢
    obtain ⟨ys, ey, ly⟩ := lo.len
    have lf := List.length_filter_le (fun r => !isG i r) ls
    rw [List.length_map] at ly
    refine ⟨_, rfl, p1, po, _, _, rfl, rfl, h1, ey, sz (by simp; omega), fun p2 hp2 => ?_⟩
    have s7 := Same.new s6 hp2 (.lst ([.ref pf] ++ ys))
    have l2 := l1.cat h1 lo ey s3 (fun c hc => by
      have : c = pf := by simpa using hc
      rw [this, h3f]; simp) hp2
    have h2 : upd H6 p2 (.lst ([.ref pf] ++ ys)) p2 = some (.lst ([.ref pf] ++ ys)) := upd_same
    generalize upd H6 p2 (.lst ([.ref pf] ++ ys)) = H7 at s7 l2 h2 ⊢
    have ez7 := s7 _ _ ez
    refine ⟨_, rfl, r, rfl, ⟨_, SqL.of ez7⟩, fun D hD => comp_walk (xs := zs) (fun k ws H' => Same H7 H' ∧ H' D = some (.lst ws) ∧ LLs H7 H' D ((rs.take k).map (rai ((i : Int) + 1))) ∧ k ≤ rs.length) (sz (by omega)) ⟨Same.new (Same.refl H7) hD _, upd_same, LLs.nil upd_same, Nat.zero_le _⟩ (fun k ws H' hk h => ⟨SqL.of (h.1 _ _ ez7), ?_⟩) (fun k v ws H' R R0 hx h r0 r1 => ?_) (fun ws H' h => ?_)⟩
    · obtain ⟨us, eu, lu⟩ := h.2.2.1.len
      rw [h.2.1] at eu
      cases eu
      rw [lu, List.length_map, List.length_take]
      omega
    · obtain ⟨sk, hw, lk, hk⟩ := h
      obtain ⟨b, ns, rfl, hn, hb, _⟩ := hr2.at ez hx
      have hlt : k < rs.length := (List.getElem?_eq_some_iff.mp hn).1
      have lns := ln2.2 ns (List.mem_of_getElem? hn)
      refine ⟨Ext.set rfl, ttN (iteT ⟨_, rfl, _, rfl, _, _, rfl, rfl, b, ns, _, rfl, SqL.of ((s7.trans sk) _ _ hb), by omega, fun c H9 s9 fc hc => r0 _ _ (s9 _ _ hw) ⟨(sk.trans s9).upd hD _, upd_same, ?_, hlt⟩⟩)⟩
      rw [List.take_add_one, hn, List.map_append]
      exact lk.push hw s9 fc hc (sk.free fc)
    · obtain ⟨sk, hw, lk, hk⟩ := h
      rw [List.take_of_length_le (by omega)] at lk
      obtain ⟨us, eu, lu⟩ := lk.len
      rw [hw] at eu
      cases eu
      rw [List.length_map] at lu
      refine ⟨p2, D, _, _, rfl, rfl, sk _ _ h2, hw, sz (by simp; omega), fun p hp => ?_⟩
      have s8 := s7.trans sk
      refine q p _ (Same.new s8 hp _) (s8.free hp) ?_
      exact (l2.same sk).cat (sk _ _ h2) lk hw s7 (fun c hc z => by
        obtain ⟨b, ns, e, _, hb, _⟩ := l2.mem h2 hc
        cases e
        rw [hb] at z
        cases z) hp
theorem ok_Rooms__SplitFamily_thing_by_parts {er : Errs} (EO : ErrOk K mg er) {ca : ClA} (CA : ClOk K mg ca) {fd : FuncData} (F : Fun K "thing_by_parts" "SplitFamily.thing_by_parts" s_Rooms__SplitFamily_thing_by_parts ca.f_Rooms__SplitFamily_thing_by_parts fd) {fd0 : FuncData} (d_Rooms__bare : MDef P w K mg base ["self"] 1 (sp_Rooms__bare K ca) ca.f_Rooms__bare fd0) {fd2 : FuncData} (d_Rooms__joined : MDef P w K mg base ["self", "left", "right"] 2 (sp_Rooms__joined K ca) ca.f_Rooms__joined fd2) (n : Nat) (d_self : MDef P w K mg base ["self", "counts", "size", "number"] (2 + n) (below n fun m => sp_Rooms__SplitFamily_thing_by_parts K ca m) ca.f_Rooms__SplitFamily_thing_by_parts fd) : FnOk P w K mg base (CX1 P w) (2 + n + 1) ca.f_Rooms__SplitFamily_thing_by_parts fd ["self", "counts", "size", "number"] (sp_Rooms__SplitFamily_thing_by_parts K ca n) := by
  refine FnOk.up ?_
  refine F.ok sc_Rooms__SplitFamily_thing_by_parts (fun vs H Q E h => ?_) (fun cdv A outer s H vs Q E hr h => ?_)
  · obtain ⟨x, dx, fs, wd, pc, k, m, rfl, hx, fl, hc, hk, k40, m0, m1, q⟩ := h
    rfl
  obtain ⟨x, dx, fs, wd, pc, k, m, rfl, hx, fl, hc, hk, k40, m0, m1, q⟩ := h
  refine ⟨_, pss_cons (ps_if (pt_cmpR op_eq (pv 2) pe_int (nomark _)) (pss_one (ps_ret (pmeth0 (pv 0) CA.c_Rooms CA.mt_Rooms_bare d_Rooms__bare hr (hjk := by omega)))) pss_nil)
    (pss_cons (ps_set (i := 4) sc_Rooms__SplitFamily_thing_by_parts.nd rfl (Or.inl rfl) pe_int)
    (pss_cons (ps_set (i := 5) sc_Rooms__SplitFamily_thing_by_parts.nd rfl (Or.inl rfl) (pv 3))
    (pss_cons (ps_while PassesOwn.never (pt_cmpR op_ge (pv 5) (pe_op op_mul (pe_ix ix_list (pv 1) (pv 4) (fun _ _ => rfl)) (pe_ix ix_list (pv 1) (pe_op op_sub (pe_op op_sub (pv 2) pe_int) (pv 4)) (fun _ _ => rfl))) (nomark _)) (pss_cons (ps_aug (i := 5) sc_Rooms__SplitFamily_thing_by_parts.nd rfl (Or.inl rfl) (pe_op op_mul (pe_ix ix_list (pv 1) (pv 4) (fun _ _ => rfl)) (pe_ix ix_list (pv 1) (pe_op op_sub (pe_op op_sub (pv 2) pe_int) (pv 4)) (fun _ _ => rfl))) ip_sub)
    (pss_one (ps_aug (i := 4) sc_Rooms__SplitFamily_thing_by_parts.nd rfl (Or.inl rfl) pe_int ip_add))))
    (pss_cons (ps_set (i := 6) sc_Rooms__SplitFamily_thing_by_parts.nd rfl (Or.inl rfl) (pe_op op_sub (pe_op op_sub (pv 2) pe_int) (pv 4)))
    (pss_cons (ps_set (i := 7) sc_Rooms__SplitFamily_thing_by_parts.nd rfl (Or.inl rfl) (pmeth (pv 0) CA.c_Rooms CA.mt_Rooms_thing_by_parts d_self hr (pa_cons (pv 1) (pa_cons (pv 4) (pa_cons (pe_op op_fdivL (pv 5) (pe_ix ix_list (pv 1) (pv 6) (fun _ _ => rfl))) pa_nil))) (hjk := by omega)))
    (pss_cons (ps_set (i := 8) sc_Rooms__SplitFamily_thing_by_parts.nd rfl (Or.inl rfl) (pmeth (pv 0) CA.c_Rooms CA.mt_Rooms_thing_by_parts d_self hr (pa_cons (pv 1) (pa_cons (pv 6) (pa_cons (pe_op op_mod (pv 5) (pe_ix ix_list (pv 1) (pv 6) (fun _ _ => rfl))) pa_nil))) (hjk := by omega)))
    (pss_one (ps_ret (pmeth (pv 0) CA.c_Rooms CA.mt_Rooms_joined d_Rooms__joined hr (pa_cons (pv 7) (pa_cons (pv 8) pa_nil)) (hjk := by omega)))))))))), ?_⟩
  refine ⟨_, rfl, rfl, _, rfl, ?_⟩
  by_cases h0 : n = 0
  · subst h0
    exact iteP rfl ⟨_, rfl, x, dx, fs, rfl, hx, fl.no "bare" (by decide) (by decide), x, rfl, fun v H' s th => q v H' s th⟩
  refine iteN (fun z => h0 (by injection z with z; omega)) ⟨_, rfl, ?_⟩
  have lk : (shL k).length = k + 1 := shL_length k
  have at_ : ∀ (j : Nat) (z : Int), z = (j : Int) → j ≤ k → atI ((shL k).map V.int) z = some (.int (sh j)) := fun j z ez hj => by
    have := atI_int (ns := shL k) (i := z) (by omega) (by omega)
    rw [show z.toNat = j by omega, shL_get k j hj] at this
    exact this
  have all : pre n n = sh n := by
    obtain ⟨a, rfl⟩ : ∃ a, n = a + 1 := ⟨n - 1, by omega⟩
    exact pre_all a
  refine ⟨fun mm σ H5 => ∃ (o1 o2 o3 : Option V) (j : Nat), σ = [some (.ref x), some (.ref pc), some (.int (n : Int)), some (.int m), some (.int (j : Int)), some (.int (m - pre n j)), o1, o2, o3] ∧ H = H5 ∧ j < n ∧ pre n j ≤ m ∧ mm = n - j, ⟨_, _, _, _, 0, by rw [show pre n 0 = 0 from rfl, Int.sub_zero]; rfl, rfl, by omega, m0, rfl⟩, ?_⟩
  rintro mm σ H5 ⟨o1, o2, o3, j, rfl, rfl, hj, hle, rfl⟩
  have p1 := sh_pos j
  have p2 := sh_pos (n - 1 - j)
  have a1 := at_ j (j : Int) rfl (by omega)
  have a2 := at_ (n - 1 - j) ((n : Int) - 1 - (j : Int)) (by omega) (by omega)
  have mc : CMul (sh j) (sh (n - 1 - j)) := mulC (a := j) (b := n - 1 - j) (by omega) (by omega) (Int.le_refl _) (by omega) (Int.le_refl _)
  refine ⟨_, rfl, _, rfl, _, rfl, pc, _, _, _, rfl, rfl, SqL.of hc, a1, _, rfl, _, rfl, _, _, rfl, rfl, _, rfl, _, _, rfl, rfl, pc, _, _, _, rfl, rfl, SqL.of hc, a2, _, _, rfl, rfl, mc, _, _, rfl, rfl, _, rfl, ?_⟩
  have ps := pre_succ n j
  by_cases h : m - pre n j ≥ sh j * sh (n - 1 - j)
  · have hj1 : j + 1 < n := by
      by_cases z : j + 1 = n
      · rw [z, all] at ps; omega
      · omega
    refine iteP h ⟨fun σ' H6 => σ' = [some (.ref x), some (.ref pc), some (.int (n : Int)), some (.int m), some (.int ((j : Int) + 1)), some (.int (m - pre n j - sh j * sh (n - 1 - j))), o1, o2, o3] ∧ H = H6, ?_, ?_⟩
    · rintro σ' H6 ⟨rfl, rfl⟩
      refine ⟨n - (j + 1), by omega, o1, o2, o3, j + 1, ?_, rfl, hj1, by omega, rfl⟩
      rw [show m - pre n (j + 1) = m - pre n j - sh j * sh (n - 1 - j) by omega]
      rfl
    · exact ⟨_, rfl, _, rfl, _, rfl, pc, _, _, _, rfl, rfl, SqL.of hc, a1, _, rfl, _, rfl, _, _, rfl, rfl, _, rfl, _, _, rfl, rfl, pc, _, _, _, rfl, rfl, SqL.of hc, a2, _, _, rfl, rfl, mc, _, _, rfl, rfl, _, rfl, _, _, rfl, rfl, rfl, rfl⟩
  refine iteN h ⟨_, rfl, _, _, rfl, rfl, _, rfl, _, _, rfl, rfl, ?_⟩
  try dsimp only
  have eb : (n : Int) - 1 - (j : Int) = ((n - 1 - j : Nat) : Int) := by omega
  rw [eb]
  generalize hR : m - pre n j = R at h
  have R0 : 0 ≤ R := by omega
  have d0 : 0 ≤ R / sh (n - 1 - j) := Int.ediv_nonneg R0 (by omega)
  have d1 : R / sh (n - 1 - j) < sh j := Int.ediv_lt_of_lt_mul (by omega) (by omega)
  have e0 := Int.emod_nonneg R (show sh (n - 1 - j) ≠ 0 by omega)
  have e1 := Int.emod_lt_of_pos R (show 0 < sh (n - 1 - j) by omega)
  have a3 := at_ (n - 1 - j) ((n - 1 - j : Nat) : Int) rfl (by omega)
  refine ⟨_, rfl, x, dx, fs, rfl, hx, fl.no "thing_by_parts" (by decide) (by decide), _, rfl, _, rfl, _, rfl, _, rfl, _, rfl, pc, _, _, _, rfl, rfl, SqL.of hc, a3, _, _, rfl, rfl, divB (by omega) (sh_big (by omega)), j, by omega, x, dx, fs, wd, pc, k, R / sh (n - 1 - j), rfl, hx, fl, hc, by omega, k40, d0, d1, fun vl H1 s1 th1 => ?_⟩
  refine ⟨_, rfl, x, dx, fs, rfl, s1 _ _ hx, fl.no "thing_by_parts" (by decide) (by decide), _, rfl, _, rfl, _, rfl, _, rfl, _, rfl, pc, _, _, _, rfl, rfl, SqL.of (s1 _ _ hc), a3, _, _, rfl, rfl, by omega, n - 1 - j, by omega, x, dx, fs, wd, pc, k, R % sh (n - 1 - j), rfl, s1 _ _ hx, fl, s1 _ _ hc, by omega, k40, e0, e1, fun vr H2 s2 th2 => ?_⟩
  have s12 := s1.trans s2
  refine ⟨_, rfl, x, dx, fs, rfl, s12 _ _ hx, fl.no "joined" (by decide) (by decide), _, rfl, _, rfl, x, dx, fs, wd, vl, vr, j, n - 1 - j, rfl, s12 _ _ hx, fl, th1.same s2, th2, by omega, fun v H' s th => ?_⟩
  rw [show j + (n - 1 - j) + 1 = n by omega] at th
  exact q v H' (s12.trans s) th
theorem ok_Rooms__SplitFamily_unchecked_thing {er : Errs} (EO : ErrOk K mg er) {ca : ClA} (CA : ClOk K mg ca) {fd : FuncData} (F : Fun K "unchecked_thing" "SplitFamily.unchecked_thing" s_Rooms__SplitFamily_unchecked_thing ca.f_Rooms__SplitFamily_unchecked_thing fd) {fd0 : FuncData} (d_Rooms__SplitFamily_thing_by_parts : MDef P w K mg base ["self", "counts", "size", "number"] 44 (spA_Rooms__SplitFamily_thing_by_parts K ca) ca.f_Rooms__SplitFamily_thing_by_parts fd0) {f1 : Addr} {fd1 : FuncData} (d_shares : Def P w K mg base "shares" ["most"] 1 (sp_shares K ca) f1 fd1) : FnOk P w K mg base CX0 45 ca.f_Rooms__SplitFamily_unchecked_thing fd ["self", "size", "number"] (sp_Rooms__SplitFamily_unchecked_thing K ca) := by
  refine F.ok sc_Rooms__SplitFamily_unchecked_thing (fun vs H Q E h => ?_) (fun cdv A outer s H vs Q E hr h => ?_)
  · obtain ⟨x, dx, fs, wd, n, m, rfl, hx, fl, n40, m0, m1, q⟩ := h
    rfl
  obtain ⟨x, dx, fs, wd, n, m, rfl, hx, fl, n40, m0, m1, q⟩ := h
  refine ⟨_, pss_one (ps_ret (pmeth (pv 0) CA.c_Rooms CA.mt_Rooms_thing_by_parts d_Rooms__SplitFamily_thing_by_parts hr (pa_cons (pcall d_shares hr (pa_cons (pv 1) pa_nil)) (pa_cons (pv 1) (pa_cons (pv 2) pa_nil))))), ?_⟩
  refine ⟨_, rfl, x, dx, fs, rfl, hx, fl.no "thing_by_parts" (by decide) (by decide), _, rfl, (n : Int), rfl, by omega, by omega, fun pc H1 s1 fc hc => ?_⟩
  rw [Int.toNat_natCast] at hc
  exact ⟨_, rfl, _, rfl, n, by omega, x, dx, fs, wd, pc, n, m, rfl, s1 _ _ hx, fl, hc, Nat.le_refl _, n40, m0, m1, fun v H' s th => q v H' (s1.trans s) th⟩
theorem ok_Rooms__Family_thing_of {er : Errs} (EO : ErrOk K mg er) {ca : ClA} (CA : ClOk K mg ca) {fd : FuncData} (F : Fun K "thing_of" "Family.thing_of" s_Rooms__Family_thing_of ca.f_Rooms__Family_thing_of fd) {fd0 : FuncData} (d_Rooms__Family_many : MDef P w K mg base ["self", "size"] 3 (sp_Rooms__Family_many K ca er) ca.f_Rooms__Family_many fd0) {fd1 : FuncData} (d_Rooms__SplitFamily_unchecked_thing : MDef P w K mg base ["self", "size", "number"] 45 (sp_Rooms__SplitFamily_unchecked_thing K ca) ca.f_Rooms__SplitFamily_unchecked_thing fd1) : FnOk P w K mg base (CX1 P w) 46 ca.f_Rooms__Family_thing_of fd ["self", "size", "number"] (sp_Rooms__Family_thing_of K ca er) := by
  refine F.okE sc_Rooms__Family_thing_of (fun vs H Q E h => ?_) (fun cdv A outer s H vs Q E hr h => ?_)
  · obtain ⟨x, dx, fs, wd, n, m, rfl, hx, fl, q⟩ := h
    rfl
  obtain ⟨x, dx, fs, wd, n, m, rfl, hx, fl, q⟩ := h
  refine ⟨_, pss_cons (ps_set (i := 3) sc_Rooms__Family_thing_of.nd rfl (Or.inl rfl) (pmethT thr_def (pv 0) CA.c_Rooms CA.mt_Rooms_many d_Rooms__Family_many hr (pa_cons (pv 1) pa_nil)))
    (pss_cons (ps_if (PW.pt (pw_or (pt_cmpR op_lt (pv 2) pe_int (nomark _)) (pw_or1 (pt_cmpR op_ge (pv 2) (pv 3) (nomark _))))) (pss_one (ps_raise thr_def EO.x_number rfl EO.m_number (pa_cons pe_str pa_nil))) pss_nil)
    (pss_one (ps_ret (pmeth (pv 0) CA.c_Rooms CA.mt_Rooms_unchecked_thing d_Rooms__SplitFamily_unchecked_thing hr (pa_cons (pv 1) (pa_cons (pv 2) pa_nil)))))), ?_⟩
  rcases q with ⟨h, q⟩ | ⟨n1, n40, h, q⟩ | ⟨n1, n40, m0, m1, q⟩
  · exact ⟨_, rfl, x, dx, fs, rfl, hx, fl.no "many" (by decide) (by decide), _, rfl, x, dx, fs, wd, n, rfl, hx, fl, .inl ⟨h, q⟩⟩
  · refine ⟨_, rfl, x, dx, fs, rfl, hx, fl.no "many" (by decide) (by decide), _, rfl, x, dx, fs, wd, n, rfl, hx, fl, .inr ⟨n1, n40, _, rfl, _, _, rfl, rfl, _, rfl, ?_⟩⟩
    by_cases h1 : m < 0
    · exact iteP h1 (iteT ⟨sz (n := 1) (by decide), q⟩)
    · exact iteN h1 ⟨_, rfl, _, rfl, _, _, rfl, rfl, _, rfl, iteP (by omega) ⟨sz (n := 1) (by decide), q⟩⟩
  · refine ⟨_, rfl, x, dx, fs, rfl, hx, fl.no "many" (by decide) (by decide), _, rfl, x, dx, fs, wd, n, rfl, hx, fl, .inr ⟨n1, n40, _, rfl, _, _, rfl, rfl, _, rfl, iteN (by omega) ⟨_, rfl, _, rfl, _, _, rfl, rfl, _, rfl, iteN (by omega) ?_⟩⟩⟩
    refine ⟨_, rfl, x, dx, fs, rfl, hx, fl.no "unchecked_thing" (by decide) (by decide), _, rfl, _, rfl, x, dx, fs, wd, n.toNat, m, ?_, hx, fl, by omega, m0, by rw [sh_cR (by omega)]; exact m1, fun v H' s th => q v H' s th⟩
    rw [Int.toNat_of_nonneg n1]
    rfl
theorem ok_Bows__bare {er : Errs} (EO : ErrOk K mg er) {ca : ClA} (CA : ClOk K mg ca) {fd : FuncData} (F : Fun K "bare" "Bows.bare" s_Bows__bare ca.f_Bows__bare fd) : FnOk P w K mg base CX0 1 ca.f_Bows__bare fd ["self"] (sp_Bows__bare K ca) := by
  refine F.ok sc_Bows__bare (fun vs H Q E h => ?_) (fun cdv A outer s H vs Q E hr h => ?_)
  · obtain ⟨x, rfl, q⟩ := h
    rfl
  obtain ⟨x, rfl, q⟩ := h
  refine ⟨_, pss_one (ps_ret (pe_lst pa_nil)), ?_⟩
  have q : ∀ (p : Addr) (H' : Hp), Same H H' → H p = none → H' p = some (.lst []) → Q (.ref p) H' := fun p H' s f h => q _ _ s ⟨p, [], rfl, ⟨[], h, .nil⟩, rfl⟩
  exact ⟨Nat.zero_le _, fun p hp => q p _ (Same.new (Same.refl H) hp _) hp upd_same⟩
theorem ok_Bows__joined {er : Errs} (EO : ErrOk K mg er) {ca : ClA} (CA : ClOk K mg ca) {fd : FuncData} (F : Fun K "joined" "Bows.joined" s_Bows__joined ca.f_Bows__joined fd) {f0 : Addr} {fd0 : FuncData} (d_pairs_raised_by : Def P w K mg base "pairs_raised_by" ["pairs", "step"] 1 (sp_pairs_raised_by K ca) f0 fd0) (m_len : mg "len" = none) : FnOk P w K mg base CX0 2 ca.f_Bows__joined fd ["self", "left", "right"] (sp_Bows__joined K ca) := by
  refine F.ok sc_Bows__joined (fun vs H Q E h => ?_) (fun cdv A outer s H vs Q E hr h => ?_)
  · obtain ⟨x, dx, fs, wd, vl, vr, i, j, rfl, hx, fl, thl, thr, hij39, q⟩ := h
    rfl
  obtain ⟨x, dx, fs, wd, vl, vr, i, j, rfl, hx, fl, thl, thr, hij39, q⟩ := h
  refine ⟨_, pss_cons (ps_set (i := 3) sc_Bows__joined.nd rfl (Or.inl rfl) (pe_op op_add (pe_op op_mul pe_int (pe_callB call_len_seq rfl m_len bb_len (pa_cons (pv 1) pa_nil))) pe_int))
    (pss_one (ps_ret (pe_op op_cat (pe_op op_cat (pe_lst (pa_cons (pe_tup (pa_cons pe_int (pa_cons (pv 3) pa_nil))) pa_nil)) (pcall d_pairs_raised_by hr (pa_cons (pv 1) (pa_cons pe_int pa_nil)))) (pcall d_pairs_raised_by hr (pa_cons (pv 2) (pa_cons (pe_op op_add (pv 3) pe_int) pa_nil)))))), ?_⟩
  obtain ⟨l, ps, rfl, hl, el⟩ := thl
  obtain ⟨r, qs, rfl, hr2, er⟩ := thr
  have lps : ps.length ≤ 40 := by omega
  have lqs : qs.length ≤ 40 := by omega
  have q : ∀ (p : Addr) (H' : Hp), Same H H' → H p = none → PLs H' p (joinB ps qs) → Q (.ref p) H' := fun p H' s f h => q _ _ s ⟨p, _, rfl, h, by unfold joinB; simp; omega⟩
  obtain ⟨xs, el, lxs, prl⟩ := hl.len
  refine ⟨_, rfl, l, xs, rfl, .inl (SqL.of el), _, _, rfl, rfl, .inl ⟨by decide, by decide⟩, _, _, rfl, rfl, ?_⟩
  try dsimp only
  rw [lxs]
  refine ⟨_, rfl, (by show 2 ≤ sizeLine; decide), fun t0 ht0 => ⟨(by show 1 ≤ sizeLine; decide), fun p0 hp0 => ?_⟩⟩
  have s1 := Same.new (Same.refl H) ht0 (.tup [.int 0, .int (2 * (ps.length : Int) + 1)])
  have s2 := Same.new s1 hp0 (.lst [.ref t0])
  have ntp : t0 ≠ p0 := ne_of_none upd_same hp0
  have hp0' : upd (upd H t0 (.tup [.int 0, .int (2 * (ps.length : Int) + 1)])) p0 (.lst [.ref t0]) p0 = some (.lst [.ref t0]) := upd_same
  have pr0 : Prs (upd (upd H t0 (.tup [.int 0, .int (2 * (ps.length : Int) + 1)])) p0 (.lst [.ref t0])) [.ref t0] [(0, 2 * (ps.length : Int) + 1)] := .cons ⟨t0, rfl, (upd_ne ntp).trans upd_same⟩ .nil
  generalize upd (upd H t0 (.tup [.int 0, .int (2 * (ps.length : Int) + 1)])) p0 (.lst [.ref t0]) = H2 at s2 hp0' pr0 ⊢
  refine ⟨_, rfl, l, ps, 1, rfl, hl.same s2, by omega, fun D H3 s3 fD hD => ?_⟩
  obtain ⟨zs, ez, lz, prz⟩ := hD.len
  have s23 := s2.trans s3
  refine ⟨p0, D, _, _, rfl, rfl, s3 _ _ hp0', ez, ?_, fun p1 hp1 => ?_⟩
  · rw [lz, List.length_map]; exact sz (by simp; omega)
  have s4 := Same.new s23 hp1 (.lst ([.ref t0] ++ zs))
  have k4 := Same.new (Same.refl H3) hp1 (.lst ([.ref t0] ++ zs))
  have pr4 : Prs (upd H3 p1 (.lst ([.ref t0] ++ zs))) ([.ref t0] ++ zs) ([(0, 2 * (ps.length : Int) + 1)] ++ ps.map (up 1)) := ((pr0.same s3).app prz).same k4
  have h14 : upd H3 p1 (.lst ([.ref t0] ++ zs)) p1 = some (.lst ([.ref t0] ++ zs)) := upd_same
  generalize upd H3 p1 (.lst ([.ref t0] ++ zs)) = H4 at s4 pr4 h14 ⊢
  refine ⟨_, rfl, _, rfl, _, _, rfl, rfl, ?_⟩
  try dsimp only
  refine ⟨r, qs, _, rfl, hr2.same s4, by omega, fun D2 H5 s5 fD2 hD2 => ?_⟩
  obtain ⟨ws, ew, lw, prw⟩ := hD2.len
  have s45 := s4.trans s5
  refine ⟨p1, D2, _, _, rfl, rfl, s5 _ _ h14, ew, ?_, fun p hp => ?_⟩
  · rw [List.length_append, lz, lw, List.length_map, List.length_map]; exact sz (by simp; omega)
  have k6 := Same.new (Same.refl H5) hp (.lst (([.ref t0] ++ zs) ++ ws))
  refine q p _ (s45.trans k6) (s45.free hp) ⟨_, upd_same, ?_⟩
  have := ((pr4.same s5).app prw).same k6
  unfold joinB
  rw [show 2 * (ps.length : Int) + 1 + 1 = 2 * (ps.length : Int) + 2 by omega] at this
  exact this
theorem ok_Bows__SplitFamily_thing_by_parts {er : Errs} (EO : ErrOk K mg er) {ca : ClA} (CA : ClOk K mg ca) {fd : FuncData} (F : Fun K "thing_by_parts" "SplitFamily.thing_by_parts" s_Bows__SplitFamily_thing_by_parts ca.f_Bows__SplitFamily_thing_by_parts fd) {fd0 : FuncData} (d_Bows__bare : MDef P w K mg base ["self"] 1 (sp_Bows__bare K ca) ca.f_Bows__bare fd0) {fd2 : FuncData} (d_Bows__joined : MDef P w K mg base ["self", "left", "right"] 2 (sp_Bows__joined K ca) ca.f_Bows__joined fd2) (n : Nat) (d_self : MDef P w K mg base ["self", "counts", "size", "number"] (2 + n) (below n fun m => sp_Bows__SplitFamily_thing_by_parts K ca m) ca.f_Bows__SplitFamily_thing_by_parts fd) : FnOk P w K mg base (CX1 P w) (2 + n + 1) ca.f_Bows__SplitFamily_thing_by_parts fd ["self", "counts", "size", "number"] (sp_Bows__SplitFamily_thing_by_parts K ca n) := by
  refine FnOk.up ?_
  refine F.ok sc_Bows__SplitFamily_thing_by_parts (fun vs H Q E h => ?_) (fun cdv A outer s H vs Q E hr h => ?_)
  · obtain ⟨x, dx, fs, wd, pc, k, m, rfl, hx, fl, hc, hk, k40, m0, m1, q⟩ := h
    rfl
  obtain ⟨x, dx, fs, wd, pc, k, m, rfl, hx, fl, hc, hk, k40, m0, m1, q⟩ := h
  refine ⟨_, pss_cons (ps_if (pt_cmpR op_eq (pv 2) pe_int (nomark _)) (pss_one (ps_ret (pmeth0 (pv 0) CA.c_Bows CA.mt_Bows_bare d_Bows__bare hr (hjk := by omega)))) pss_nil)
    (pss_cons (ps_set (i := 4) sc_Bows__SplitFamily_thing_by_parts.nd rfl (Or.inl rfl) pe_int)
    (pss_cons (ps_set (i := 5) sc_Bows__SplitFamily_thing_by_parts.nd rfl (Or.inl rfl) (pv 3))
    (pss_cons (ps_while PassesOwn.never (pt_cmpR op_ge (pv 5) (pe_op op_mul (pe_ix ix_list (pv 1) (pv 4) (fun _ _ => rfl)) (pe_ix ix_list (pv 1) (pe_op op_sub (pe_op op_sub (pv 2) pe_int) (pv 4)) (fun _ _ => rfl))) (nomark _)) (pss_cons (ps_aug (i := 5) sc_Bows__SplitFamily_thing_by_parts.nd rfl (Or.inl rfl) (pe_op op_mul (pe_ix ix_list (pv 1) (pv 4) (fun _ _ => rfl)) (pe_ix ix_list (pv 1) (pe_op op_sub (pe_op op_sub (pv 2) pe_int) (pv 4)) (fun _ _ => rfl))) ip_sub)
    (pss_one (ps_aug (i := 4) sc_Bows__SplitFamily_thing_by_parts.nd rfl (Or.inl rfl) pe_int ip_add))))
    (pss_cons (ps_set (i := 6) sc_Bows__SplitFamily_thing_by_parts.nd rfl (Or.inl rfl) (pe_op op_sub (pe_op op_sub (pv 2) pe_int) (pv 4)))
    (pss_cons (ps_set (i := 7) sc_Bows__SplitFamily_thing_by_parts.nd rfl (Or.inl rfl) (pmeth (pv 0) CA.c_Bows CA.mt_Bows_thing_by_parts d_self hr (pa_cons (pv 1) (pa_cons (pv 4) (pa_cons (pe_op op_fdivL (pv 5) (pe_ix ix_list (pv 1) (pv 6) (fun _ _ => rfl))) pa_nil))) (hjk := by omega)))
    (pss_cons (ps_set (i := 8) sc_Bows__SplitFamily_thing_by_parts.nd rfl (Or.inl rfl) (pmeth (pv 0) CA.c_Bows CA.mt_Bows_thing_by_parts d_self hr (pa_cons (pv 1) (pa_cons (pv 6) (pa_cons (pe_op op_mod (pv 5) (pe_ix ix_list (pv 1) (pv 6) (fun _ _ => rfl))) pa_nil))) (hjk := by omega)))
    (pss_one (ps_ret (pmeth (pv 0) CA.c_Bows CA.mt_Bows_joined d_Bows__joined hr (pa_cons (pv 7) (pa_cons (pv 8) pa_nil)) (hjk := by omega)))))))))), ?_⟩
  refine ⟨_, rfl, rfl, _, rfl, ?_⟩
  by_cases h0 : n = 0
  · subst h0
    exact iteP rfl ⟨_, rfl, x, dx, fs, rfl, hx, fl.no "bare" (by decide) (by decide), x, rfl, fun v H' s th => q v H' s th⟩
  refine iteN (fun z => h0 (by injection z with z; omega)) ⟨_, rfl, ?_⟩
  have lk : (shL k).length = k + 1 := shL_length k
  have at_ : ∀ (j : Nat) (z : Int), z = (j : Int) → j ≤ k → atI ((shL k).map V.int) z = some (.int (sh j)) := fun j z ez hj => by
    have := atI_int (ns := shL k) (i := z) (by omega) (by omega)
    rw [show z.toNat = j by omega, shL_get k j hj] at this
    exact this
  have all : pre n n = sh n := by
    obtain ⟨a, rfl⟩ : ∃ a, n = a + 1 := ⟨n - 1, by omega⟩
    exact pre_all a
  refine ⟨fun mm σ H5 => ∃ (o1 o2 o3 : Option V) (j : Nat), σ = [some (.ref x), some (.ref pc), some (.int (n : Int)), some (.int m), some (.int (j : Int)), some (.int (m - pre n j)), o1, o2, o3] ∧ H = H5 ∧ j < n ∧ pre n j ≤ m ∧ mm = n - j, ⟨_, _, _, _, 0, by rw [show pre n 0 = 0 from rfl, Int.sub_zero]; rfl, rfl, by omega, m0, rfl⟩, ?_⟩
  rintro mm σ H5 ⟨o1, o2, o3, j, rfl, rfl, hj, hle, rfl⟩
  have p1 := sh_pos j
  have p2 := sh_pos (n - 1 - j)
  have a1 := at_ j (j : Int) rfl (by omega)
  have a2 := at_ (n - 1 - j) ((n : Int) - 1 - (j : Int)) (by omega) (by omega)
  have mc : CMul (sh j) (sh (n - 1 - j)) := mulC (a := j) (b := n - 1 - j) (by omega) (by omega) (Int.le_refl _) (by omega) (Int.le_refl _)
  refine ⟨_, rfl, _, rfl, _, rfl, pc, _, _, _, rfl, rfl, SqL.of hc, a1, _, rfl, _, rfl, _, _, rfl, rfl, _, rfl, _, _, rfl, rfl, pc, _, _, _, rfl, rfl, SqL.of hc, a2, _, _, rfl, rfl, mc, _, _, rfl, rfl, _, rfl, ?_⟩
  have ps := pre_succ n j
  by_cases h : m - pre n j ≥ sh j * sh (n - 1 - j)
  · have hj1 : j + 1 < n := by
      by_cases z : j + 1 = n
      · rw [z, all] at ps; omega
      · omega
    refine iteP h ⟨fun σ' H6 => σ' = [some (.ref x), some (.ref pc), some (.int (n : Int)), some (.int m), some (.int ((j : Int) + 1)), some (.int (m - pre n j - sh j * sh (n - 1 - j))), o1, o2, o3] ∧ H = H6, ?_, ?_⟩
    · rintro σ' H6 ⟨rfl, rfl⟩
      refine ⟨n - (j + 1), by omega, o1, o2, o3, j + 1, ?_, rfl, hj1, by omega, rfl⟩
      rw [show m - pre n (j + 1) = m - pre n j - sh j * sh (n - 1 - j) by omega]
      rfl
    · exact ⟨_, rfl, _, rfl, _, rfl, pc, _, _, _, rfl, rfl, SqL.of hc, a1, _, rfl, _, rfl, _, _, rfl, rfl, _, rfl, _, _, rfl, rfl, pc, _, _, _, rfl, rfl, SqL.of hc, a2, _, _, rfl, rfl, mc, _, _, rfl, rfl, _, rfl, _, _, rfl, rfl, rfl, rfl⟩
  refine iteN h ⟨_, rfl, _, _, rfl, rfl, _, rfl, _, _, rfl, rfl, ?_⟩
  try dsimp only
  have eb : (n : Int) - 1 - (j : Int) = ((n - 1 - j : Nat) : Int) := by omega
  rw [eb]
  generalize hR : m - pre n j = R at h
  have R0 : 0 ≤ R := by omega
  have d0 : 0 ≤ R / sh (n - 1 - j) := Int.ediv_nonneg R0 (by omega)
  have d1 : R / sh (n - 1 - j) < sh j := Int.ediv_lt_of_lt_mul (by omega) (by omega)
  have e0 := Int.emod_nonneg R (show sh (n - 1 - j) ≠ 0 by omega)
  have e1 := Int.emod_lt_of_pos R (show 0 < sh (n - 1 - j) by omega)
  have a3 := at_ (n - 1 - j) ((n - 1 - j : Nat) : Int) rfl (by omega)
  refine ⟨_, rfl, x, dx, fs, rfl, hx, fl.no "thing_by_parts" (by decide) (by decide), _, rfl, _, rfl, _, rfl, _, rfl, _, rfl, pc, _, _, _, rfl, rfl, SqL.of hc, a3, _, _, rfl, rfl, divB (by omega) (sh_big (by omega)), j, by omega, x, dx, fs, wd, pc, k, R / sh (n - 1 - j), rfl, hx, fl, hc, by omega, k40, d0, d1, fun vl H1 s1 th1 => ?_⟩
  refine ⟨_, rfl, x, dx, fs, rfl, s1 _ _ hx, fl.no "thing_by_parts" (by decide) (by decide), _, rfl, _, rfl, _, rfl, _, rfl, _, rfl, pc, _, _, _, rfl, rfl, SqL.of (s1 _ _ hc), a3, _, _, rfl, rfl, by omega, n - 1 - j, by omega, x, dx, fs, wd, pc, k, R % sh (n - 1 - j), rfl, s1 _ _ hx, fl, s1 _ _ hc, by omega, k40, e0, e1, fun vr H2 s2 th2 => ?_⟩
  have s12 := s1.trans s2
  refine ⟨_, rfl, x, dx, fs, rfl, s12 _ _ hx, fl.no "joined" (by decide) (by decide), _, rfl, _, rfl, x, dx, fs, wd, vl, vr, j, n - 1 - j, rfl, s12 _ _ hx, fl, th1.same s2, th2, by omega, fun v H' s th => ?_⟩
  rw [show j + (n - 1 - j) + 1 = n by omega] at th
  exact q v H' (s12.trans s) th
theorem ok_Bows__SplitFamily_unchecked_thing {er : Errs} (EO : ErrOk K mg er) {ca : ClA} (CA : ClOk K mg ca) {fd : FuncData} (F : Fun K "unchecked_thing" "SplitFamily.unchecked_thing" s_Bows__SplitFamily_unchecked_thing ca.f_Bows__SplitFamily_unchecked_thing fd) {fd0 : FuncData} (d_Bows__SplitFamily_thing_by_parts : MDef P w K mg base ["self", "counts", "size", "number"] 44 (spA_Bows__SplitFamily_thing_by_parts K ca) ca.f_Bows__SplitFamily_thing_by_parts fd0) {f1 : Addr} {fd1 : FuncData} (d_shares : Def P w K mg base "shares" ["most"] 1 (sp_shares K ca) f1 fd1) : FnOk P w K mg base CX0 45 ca.f_Bows__SplitFamily_unchecked_thing fd ["self", "size", "number"] (sp_Bows__SplitFamily_unchecked_thing K ca) := by
  refine F.ok sc_Bows__SplitFamily_unchecked_thing (fun vs H Q E h => ?_) (fun cdv A outer s H vs Q E hr h => ?_)
  · obtain ⟨x, dx, fs, wd, n, m, rfl, hx, fl, n40, m0, m1, q⟩ := h
    rfl
  obtain ⟨x, dx, fs, wd, n, m, rfl, hx, fl, n40, m0, m1, q⟩ := h
  refine ⟨_, pss_one (ps_ret (pmeth (pv 0) CA.c_Bows CA.mt_Bows_thing_by_parts d_Bows__SplitFamily_thing_by_parts hr (pa_cons (pcall d_shares hr (pa_cons (pv 1) pa_nil)) (pa_cons (pv 1) (pa_cons (pv 2) pa_nil))))), ?_⟩
  refine ⟨_, rfl, x, dx, fs, rfl, hx, fl.no "thing_by_parts" (by decide) (by decide), _, rfl, (n : Int), rfl, by omega, by omega, fun pc H1 s1 fc hc => ?_⟩
  rw [Int.toNat_natCast] at hc
  exact ⟨_, rfl, _, rfl, n, by omega, x, dx, fs, wd, pc, n, m, rfl, s1 _ _ hx, fl, hc, Nat.le_refl _, n40, m0, m1, fun v H' s th => q v H' (s1.trans s) th⟩
theorem ok_Bows__Family_thing_of {er : Errs} (EO : ErrOk K mg er) {ca : ClA} (CA : ClOk K mg ca) {fd : FuncData} (F : Fun K "thing_of" "Family.thing_of" s_Bows__Family_thing_of ca.f_Bows__Family_thing_of fd) {fd0 : FuncData} (d_Bows__Family_many : MDef P w K mg base ["self", "size"] 3 (sp_Bows__Family_many K ca er) ca.f_Bows__Family_many fd0) {fd1 : FuncData} (d_Bows__SplitFamily_unchecked_thing : MDef P w K mg base ["self", "size", "number"] 45 (sp_Bows__SplitFamily_unchecked_thing K ca) ca.f_Bows__SplitFamily_unchecked_thing fd1) : FnOk P w K mg base (CX1 P w) 46 ca.f_Bows__Family_thing_of fd ["self", "size", "number"] (sp_Bows__Family_thing_of K ca er) := by
  refine F.okE sc_Bows__Family_thing_of (fun vs H Q E h => ?_) (fun cdv A outer s H vs Q E hr h => ?_)
  · obtain ⟨x, dx, fs, wd, n, m, rfl, hx, fl, q⟩ := h
    rfl
  obtain ⟨x, dx, fs, wd, n, m, rfl, hx, fl, q⟩ := h
  refine ⟨_, pss_cons (ps_set (i := 3) sc_Bows__Family_thing_of.nd rfl (Or.inl rfl) (pmethT thr_def (pv 0) CA.c_Bows CA.mt_Bows_many d_Bows__Family_many hr (pa_cons (pv 1) pa_nil)))
    (pss_cons (ps_if (PW.pt (pw_or (pt_cmpR op_lt (pv 2) pe_int (nomark _)) (pw_or1 (pt_cmpR op_ge (pv 2) (pv 3) (nomark _))))) (pss_one (ps_raise thr_def EO.x_number rfl EO.m_number (pa_cons pe_str pa_nil))) pss_nil)
    (pss_one (ps_ret (pmeth (pv 0) CA.c_Bows CA.mt_Bows_unchecked_thing d_Bows__SplitFamily_unchecked_thing hr (pa_cons (pv 1) (pa_cons (pv 2) pa_nil)))))), ?_⟩
  rcases q with ⟨h, q⟩ | ⟨n1, n40, h, q⟩ | ⟨n1, n40, m0, m1, q⟩
  · exact ⟨_, rfl, x, dx, fs, rfl, hx, fl.no "many" (by decide) (by decide), _, rfl, x, dx, fs, wd, n, rfl, hx, fl, .inl ⟨h, q⟩⟩
  · refine ⟨_, rfl, x, dx, fs, rfl, hx, fl.no "many" (by decide) (by decide), _, rfl, x, dx, fs, wd, n, rfl, hx, fl, .inr ⟨n1, n40, _, rfl, _, _, rfl, rfl, _, rfl, ?_⟩⟩
    by_cases h1 : m < 0
    · exact iteP h1 (iteT ⟨sz (n := 1) (by decide), q⟩)
    · exact iteN h1 ⟨_, rfl, _, rfl, _, _, rfl, rfl, _, rfl, iteP (by omega) ⟨sz (n := 1) (by decide), q⟩⟩
  · refine ⟨_, rfl, x, dx, fs, rfl, hx, fl.no "many" (by decide) (by decide), _, rfl, x, dx, fs, wd, n, rfl, hx, fl, .inr ⟨n1, n40, _, rfl, _, _, rfl, rfl, _, rfl, iteN (by omega) ⟨_, rfl, _, rfl, _, _, rfl, rfl, _, rfl, iteN (by omega) ?_⟩⟩⟩
    refine ⟨_, rfl, x, dx, fs, rfl, hx, fl.no "unchecked_thing" (by decide) (by decide), _, rfl, _, rfl, x, dx, fs, wd, n.toNat, m, ?_, hx, fl, by omega, m0, by rw [sh_cR (by omega)]; exact m1, fun v H' s th => q v H' s th⟩
    rw [Int.toNat_of_nonneg n1]
    rfl
theorem ok__law_thing_refused {er : Errs} (EO : ErrOk K mg er) {ca : ClA} (CA : ClOk K mg ca) {f : Addr} {fd : FuncData} (F : Fun K "_law_thing_refused" "_law_thing_refused" s__law_thing_refused f fd) {fd0 : FuncData} (d_Turns__Family_thing_of : MDef P w K mg base ["self", "size", "number"] 46 (sp_Turns__Family_thing_of K ca er) ca.f_Turns__Family_thing_of fd0) {fd1 : FuncData} (d_Floors__Family_thing_of : MDef P w K mg base ["self", "size", "number"] 46 (sp_Floors__Family_thing_of K ca er) ca.f_Floors__Family_thing_of fd1) {fd2 : FuncData} (d_Rooms__Family_thing_of : MDef P w K mg base ["self", "size", "number"] 46 (sp_Rooms__Family_thing_of K ca er) ca.f_Rooms__Family_thing_of fd2) {fd3 : FuncData} (d_Bows__Family_thing_of : MDef P w K mg base ["self", "size", "number"] 46 (sp_Bows__Family_thing_of K ca er) ca.f_Bows__Family_thing_of fd3) {f4 : Addr} {fd4 : FuncData} (d__law_classes : Def P w K mg base "_law_classes" ["_law_error"] 1 (sp__law_classes K ca er) f4 fd4) : FnOk P w K mg base CX0 47 f fd ["_law_kin_here", "_law_size", "_law_number"] (sp__law_thing_refused K ca er) := by
  refine F.ok sc__law_thing_refused (fun vs H Q E h => ?_) (fun cdv A outer s H vs Q E hr h => ?_)
  · obtain ⟨x, dx, fs, wd, w, n, m, t, rfl, hw, o0, o1, o2, o3, fl, hn, q⟩ := h
    rfl
  obtain ⟨x, dx, fs, wd, w, n, m, t, rfl, hw, o0, o1, o2, o3, fl, hn, q⟩ := h
  refine ⟨_, pss_cons (ps_set (i := 3) sc__law_thing_refused.nd rfl (Or.inl rfl) pe_non)
    (pss_cons (ps_tryAs (i := 4) rfl rfl rfl sc__law_thing_refused.nd rfl rfl rfl EO.m_kin (px_eit (px_meth (fun _ _ => (pv 0)) CA.c_Bows CA.mt_Bows_thing_of d_Bows__Family_thing_of hr (fun _ _ => (pa_cons (pv 1) (pa_cons (pv 2) pa_nil)))) (px_eit (px_meth (fun _ _ => (pv 0)) CA.c_Rooms CA.mt_Rooms_thing_of d_Rooms__Family_thing_of hr (fun _ _ => (pa_cons (pv 1) (pa_cons (pv 2) pa_nil)))) (px_eit (px_meth (fun _ _ => (pv 0)) CA.c_Floors CA.mt_Floors_thing_of d_Floors__Family_thing_of hr (fun _ _ => (pa_cons (pv 1) (pa_cons (pv 2) pa_nil)))) (px_meth (fun _ _ => (pv 0)) CA.c_Turns CA.mt_Turns_thing_of d_Turns__Family_thing_of hr (fun _ _ => (pa_cons (pv 1) (pa_cons (pv 2) pa_nil))))))) (fun _ => (pss_one (ps_set (i := 3) sc__law_thing_refused.nd rfl (Or.inl rfl) (pv 4)))))
    (pss_one (ps_ret (pcall d__law_classes hr (pa_cons (pv 3) pa_nil))))), ?_⟩
  have ob := And.intro o0 (And.intro o1 (And.intro o2 o3))
  rcases (by omega : w = 0 ∨ w = 1 ∨ w = 2 ∨ w = 3) with rfl | rfl | rfl | rfl
  · have hx := ob.1 rfl
    rcases hn with ⟨hn, rfl⟩ | ⟨n1, n40, hm, rfl⟩
    · refine (.inl ⟨_, rfl, x, dx, fs, rfl, hx, fl.no "thing_of" (by decide) (by decide), _, rfl, _, rfl, x, dx, fs, wd, n, m, rfl, hx, fl, .inl ⟨hn, EO.c_size, fun e he => ⟨_, rfl, ?_⟩⟩⟩)
      refine ⟨_, rfl, e, er.size, _, rfl, upd_same, .inl ⟨rfl, rfl⟩, fun p H' sm fp hp => ?_⟩
      have s2 := Same.new (Same.refl H) he (excO e (.ref er.size))
      exact q p H' (s2.trans sm) (s2.free fp) hp
    · refine (.inl ⟨_, rfl, x, dx, fs, rfl, hx, fl.no "thing_of" (by decide) (by decide), _, rfl, _, rfl, x, dx, fs, wd, n, m, rfl, hx, fl, .inr (.inl ⟨n1, n40, hm, EO.c_number, fun e he => ⟨_, rfl, ?_⟩⟩)⟩)
      refine ⟨_, rfl, e, er.number, _, rfl, upd_same, .inr ⟨rfl, rfl⟩, fun p H' sm fp hp => ?_⟩
      have s2 := Same.new (Same.refl H) he (excO e (.ref er.number))
      exact q p H' (s2.trans sm) (s2.free fp) hp
  · have hx := ob.2.1 rfl
    rcases hn with ⟨hn, rfl⟩ | ⟨n1, n40, hm, rfl⟩
    · refine (.inr (.inl ⟨_, rfl, x, dx, fs, rfl, hx, fl.no "thing_of" (by decide) (by decide), _, rfl, _, rfl, x, dx, fs, wd, n, m, rfl, hx, fl, .inl ⟨hn, EO.c_size, fun e he => ⟨_, rfl, ?_⟩⟩⟩))
      refine ⟨_, rfl, e, er.size, _, rfl, upd_same, .inl ⟨rfl, rfl⟩, fun p H' sm fp hp => ?_⟩
      have s2 := Same.new (Same.refl H) he (excO e (.ref er.size))
      exact q p H' (s2.trans sm) (s2.free fp) hp
    · refine (.inr (.inl ⟨_, rfl, x, dx, fs, rfl, hx, fl.no "thing_of" (by decide) (by decide), _, rfl, _, rfl, x, dx, fs, wd, n, m, rfl, hx, fl, .inr (.inl ⟨n1, n40, hm, EO.c_number, fun e he => ⟨_, rfl, ?_⟩⟩)⟩))
      refine ⟨_, rfl, e, er.number, _, rfl, upd_same, .inr ⟨rfl, rfl⟩, fun p H' sm fp hp => ?_⟩
      have s2 := Same.new (Same.refl H) he (excO e (.ref er.number))
      exact q p H' (s2.trans sm) (s2.free fp) hp
  · have hx := ob.2.2.1 rfl
    rcases hn with ⟨hn, rfl⟩ | ⟨n1, n40, hm, rfl⟩
    · refine (.inr (.inr (.inl ⟨_, rfl, x, dx, fs, rfl, hx, fl.no "thing_of" (by decide) (by decide), _, rfl, _, rfl, x, dx, fs, wd, n, m, rfl, hx, fl, .inl ⟨hn, EO.c_size, fun e he => ⟨_, rfl, ?_⟩⟩⟩)))
      refine ⟨_, rfl, e, er.size, _, rfl, upd_same, .inl ⟨rfl, rfl⟩, fun p H' sm fp hp => ?_⟩
      have s2 := Same.new (Same.refl H) he (excO e (.ref er.size))
      exact q p H' (s2.trans sm) (s2.free fp) hp
    · refine (.inr (.inr (.inl ⟨_, rfl, x, dx, fs, rfl, hx, fl.no "thing_of" (by decide) (by decide), _, rfl, _, rfl, x, dx, fs, wd, n, m, rfl, hx, fl, .inr (.inl ⟨n1, n40, hm, EO.c_number, fun e he => ⟨_, rfl, ?_⟩⟩)⟩)))
      refine ⟨_, rfl, e, er.number, _, rfl, upd_same, .inr ⟨rfl, rfl⟩, fun p H' sm fp hp => ?_⟩
      have s2 := Same.new (Same.refl H) he (excO e (.ref er.number))
      exact q p H' (s2.trans sm) (s2.free fp) hp
  · have hx := ob.2.2.2 rfl
    rcases hn with ⟨hn, rfl⟩ | ⟨n1, n40, hm, rfl⟩
    · refine (.inr (.inr (.inr ⟨_, rfl, x, dx, fs, rfl, hx, fl.no "thing_of" (by decide) (by decide), _, rfl, _, rfl, x, dx, fs, wd, n, m, rfl, hx, fl, .inl ⟨hn, EO.c_size, fun e he => ⟨_, rfl, ?_⟩⟩⟩)))
      refine ⟨_, rfl, e, er.size, _, rfl, upd_same, .inl ⟨rfl, rfl⟩, fun p H' sm fp hp => ?_⟩
      have s2 := Same.new (Same.refl H) he (excO e (.ref er.size))
      exact q p H' (s2.trans sm) (s2.free fp) hp
    · refine (.inr (.inr (.inr ⟨_, rfl, x, dx, fs, rfl, hx, fl.no "thing_of" (by decide) (by decide), _, rfl, _, rfl, x, dx, fs, wd, n, m, rfl, hx, fl, .inr (.inl ⟨n1, n40, hm, EO.c_number, fun e he => ⟨_, rfl, ?_⟩⟩)⟩)))
      refine ⟨_, rfl, e, er.number, _, rfl, upd_same, .inr ⟨rfl, rfl⟩, fun p H' sm fp hp => ?_⟩
      have s2 := Same.new (Same.refl H) he (excO e (.ref er.number))
      exact q p H' (s2.trans sm) (s2.free fp) hp
theorem ok_Bows__size_of {er : Errs} (EO : ErrOk K mg er) {ca : ClA} (CA : ClOk K mg ca) {fd : FuncData} (F : Fun K "size_of" "Bows.size_of" s_Bows__size_of ca.f_Bows__size_of fd) (m_len : mg "len" = none) : FnOk P w K mg base CX0 1 ca.f_Bows__size_of fd ["self", "thing"] (sp_Bows__size_of K ca) := by
  refine F.ok sc_Bows__size_of (fun vs H Q E h => ?_) (fun cdv A outer s H vs Q E hr h => ?_)
  · obtain ⟨x, v, i, rfl, th, hi40, q⟩ := h
    rfl
  obtain ⟨x, v, i, rfl, th, hi40, q⟩ := h
  refine ⟨_, pss_one (ps_ret (pe_callB call_len_seq rfl m_len bb_len (pa_cons (pv 1) pa_nil))), ?_⟩
  obtain ⟨p, ps, rfl, hp, hl⟩ := th
  obtain ⟨xs, ex, lx, _⟩ := hp.len
  refine ⟨_, rfl, p, _, rfl, .inl (SqL.of ex), ?_⟩
  rw [lx, hl]
  exact q _ (Same.refl H)
theorem ok_Floors__size_of {er : Errs} (EO : ErrOk K mg er) {ca : ClA} (CA : ClOk K mg ca) {fd : FuncData} (F : Fun K "size_of" "Floors.size_of" s_Floors__size_of ca.f_Floors__size_of fd) : FnOk P w K mg base CX0 1 ca.f_Floors__size_of fd ["self", "thing"] (sp_Floors__size_of K ca) := by
  refine F.ok sc_Floors__size_of (fun vs H Q E h => ?_) (fun cdv A outer s H vs Q E hr h => ?_)
  · obtain ⟨x, v, i, rfl, th, hi40, q⟩ := h
    rfl
  obtain ⟨x, v, i, rfl, th, hi40, q⟩ := h
  refine ⟨_, pss_one (ps_ret (pe_op op_sub (pe_ix ix_tup (pv 1) pe_int (fun _ _ => rfl)) pe_int)), ?_⟩
  obtain ⟨t, l, cs, rfl, ht, hl, _⟩ := th
  refine ⟨_, rfl, t, _, _, _, rfl, rfl, SqT.of ht, rfl, _, _, rfl, rfl, ?_⟩
  try dsimp only
  rw [show (i : Int) + 2 - 2 = (i : Int) by omega]
  exact q _ (Same.refl H)
theorem ok_Turns__size_of {er : Errs} (EO : ErrOk K mg er) {ca : ClA} (CA : ClOk K mg ca) {fd : FuncData} (F : Fun K "size_of" "Turns.size_of" s_Turns__size_of ca.f_Turns__size_of fd) (m_len : mg "len" = none) : FnOk P w K mg base CX0 1 ca.f_Turns__size_of fd ["self", "thing"] (sp_Turns__size_of K ca) := by
  refine F.ok sc_Turns__size_of (fun vs H Q E h => ?_) (fun cdv A outer s H vs Q E hr h => ?_)
  · obtain ⟨x, v, i, rfl, th, hi40, q⟩ := h
    rfl
  obtain ⟨x, v, i, rfl, th, hi40, q⟩ := h
  refine ⟨_, pss_one (ps_ret (pe_callB call_len_seq rfl m_len bb_len (pa_cons (pv 1) pa_nil))), ?_⟩
  obtain ⟨p, ns, rfl, hp, hl⟩ := th
  refine ⟨_, rfl, p, _, rfl, .inl (SqL.of hp), ?_⟩
  rw [List.length_map, hl]
  exact q _ (Same.refl H)
theorem ok_law {er : Errs} (EO : ErrOk K mg er) {ca : ClA} (CA : ClOk K mg ca) {f : Addr} {fd : FuncData} (F : Fun K "law" "law" s_law f fd) {f0 : Addr} {fd0 : FuncData} (d__law_kin : Def P w K mg base "_law_kin" ["_law_word"] 7 (sp__law_kin K ca) f0 fd0) {f1 : Addr} {fd1 : FuncData} (d__law_cell_at : Def P w K mg base "_law_cell_at" ["_law_script", "_law_k"] 1 (sp__law_cell_at K ca) f1 fd1) {f2 : Addr} {fd2 : FuncData} (d__law_counts : Def P w K mg base "_law_counts" ["_law_most"] 1 (sp__law_counts K ca) f2 fd2) {f3 : Addr} {fd3 : FuncData} (d__law_many_refused : Def P w K mg base "_law_many_refused" ["_law_kin_here", "_law_size"] 4 (sp__law_many_refused K ca er) f3 fd3) {f4 : Addr} {fd4 : FuncData} (d__law_thing_refused : Def P w K mg base "_law_thing_refused" ["_law_kin_here", "_law_size", "_law_number"] 47 (sp__law_thing_refused K ca er) f4 fd4) {fd5 : FuncData} (d_Bows__Family_thing_of : MDef P w K mg base ["self", "size", "number"] 46 (sp_Bows__Family_thing_of K ca er) ca.f_Bows__Family_thing_of fd5) {fd6 : FuncData} (d_Rooms__Family_thing_of : MDef P w K mg base ["self", "size", "number"] 46 (sp_Rooms__Family_thing_of K ca er) ca.f_Rooms__Family_thing_of fd6) {fd7 : FuncData} (d_Floors__Family_thing_of : MDef P w K mg base ["self", "size", "number"] 46 (sp_Floors__Family_thing_of K ca er) ca.f_Floors__Family_thing_of fd7) {fd8 : FuncData} (d_Turns__Family_thing_of : MDef P w K mg base ["self", "size", "number"] 46 (sp_Turns__Family_thing_of K ca er) ca.f_Turns__Family_thing_of fd8) {fd9 : FuncData} (d_Bows__Family_many : MDef P w K mg base ["self", "size"] 3 (sp_Bows__Family_many K ca er) ca.f_Bows__Family_many fd9) {fd10 : FuncData} (d_Rooms__Family_many : MDef P w K mg base ["self", "size"] 3 (sp_Rooms__Family_many K ca er) ca.f_Rooms__Family_many fd10) {fd11 : FuncData} (d_Floors__Family_many : MDef P w K mg base ["self", "size"] 3 (sp_Floors__Family_many K ca er) ca.f_Floors__Family_many fd11) {fd12 : FuncData} (d_Turns__Family_many : MDef P w K mg base ["self", "size"] 3 (sp_Turns__Family_many K ca er) ca.f_Turns__Family_many fd12) {fd13 : FuncData} (d_Bows__size_of : MDef P w K mg base ["self", "thing"] 1 (sp_Bows__size_of K ca) ca.f_Bows__size_of fd13) {fd14 : FuncData} (d_Rooms__size_of : MDef P w K mg base ["self", "thing"] 1 (sp_Rooms__size_of K ca) ca.f_Rooms__size_of fd14) {fd15 : FuncData} (d_Floors__size_of : MDef P w K mg base ["self", "thing"] 1 (sp_Floors__size_of K ca) ca.f_Floors__size_of fd15) {fd16 : FuncData} (d_Turns__size_of : MDef P w K mg base ["self", "thing"] 1 (sp_Turns__size_of K ca) ca.f_Turns__size_of fd16) (m_isinstance : mg "isinstance" = none) : FnOk P w K mg base CX0 48 f fd ["_law_script"] (sp_law K ca er) := by
  refine F.ok sc_law (fun vs H Q E h => ?_) (fun cdv A outer s H vs Q E hr h => ?_)
  · obtain ⟨a, ns, rfl, hS, h63, q⟩ := h
    rfl
  obtain ⟨a, ns, rfl, hS, h63, q⟩ := h
  refine ⟨_, pss_cons (ps_set (i := 1) sc_law.nd rfl (Or.inl rfl) (pcall d__law_kin hr (pa_cons (pe_op op_mod (pcall d__law_cell_at hr (pa_cons (pv 0) (pa_cons pe_int pa_nil))) pe_int) pa_nil)))
    (pss_cons (ps_set (i := 2) sc_law.nd rfl (Or.inl rfl) (pe_op op_mod (pe_op op_fdivL (pcall d__law_cell_at hr (pa_cons (pv 0) (pa_cons pe_int pa_nil))) pe_int) pe_int))
    (pss_cons (ps_set (i := 3) sc_law.nd rfl (Or.inl rfl) (pe_ix ix_list (pcall d__law_counts hr (pa_cons pe_int pa_nil)) (pv 2) (fun _ _ => rfl)))
    (pss_cons (ps_set (i := 4) sc_law.nd rfl (Or.inl rfl) (pe_op op_mod (pcall d__law_cell_at hr (pa_cons (pv 0) (pa_cons pe_int pa_nil))) (pe_op op_pow pe_int pe_int)))
    (pss_cut (ps_if (pt_cmpR op_eq (pe_op op_mod (pcall d__law_cell_at hr (pa_cons (pv 0) (pa_cons pe_int pa_nil))) pe_int) pe_int (nomark _)) (pss_one (ps_set (i := 4) sc_law.nd rfl (Or.inl rfl) (pe_op op_mod (pv 4) pe_int))) pss_nil)
    (pss_cons (ps_for PassesOwn.never rfl (pi_list (pe_lst (pa_cons (pe_op op_add pe_int (pv 4)) (pa_cons (pe_op op_sub (pe_op op_sub pe_int pe_int) (pv 4)) pa_nil)))) (pg_name (i := 5) sc_law.nd rfl (Or.inl rfl)) (pss_cons (ps_if (pt_cmpR (op_ne_list (hu0 hr)) (pcall d__law_many_refused hr (pa_cons (pv 1) (pa_cons (pv 5) pa_nil))) (pe_lst (pa_cons pe_str pa_nil)) (nomark _)) (pss_one (ps_ret pe_bl)) pss_nil)
    (pss_one (ps_for PassesOwn.never rfl (pi_list (pe_lst (pa_cons pe_int (pa_cons (pv 3) (pa_cons (pe_op op_sub (pe_op op_sub pe_int pe_int) (pv 4)) pa_nil))))) (pg_name (i := 6) sc_law.nd rfl (Or.inl rfl)) (pss_one (ps_if (pt_cmpR (op_ne_list (hu0 hr)) (pcall d__law_thing_refused hr (pa_cons (pv 1) (pa_cons (pv 5) (pa_cons (pv 6) pa_nil)))) (pe_lst (pa_cons pe_str pa_nil)) (nomark _)) (pss_one (ps_ret pe_bl)) pss_nil))))))
    (pss_cons (ps_for PassesOwn.never rfl (pi_list (pe_lst (pa_cons (pv 3) (pa_cons (pe_op op_add (pv 3) (pv 4)) (pa_cons (pe_op op_sub pe_int pe_int) (pa_cons (pe_op op_sub (pe_op op_sub pe_int pe_int) (pv 4)) pa_nil)))))) (pg_name (i := 6) sc_law.nd rfl (Or.inl rfl)) (pss_one (ps_if (pt_cmpR (op_ne_list (hu0 hr)) (pcall d__law_thing_refused hr (pa_cons (pv 1) (pa_cons (pv 2) (pa_cons (pv 6) pa_nil)))) (pe_lst (pa_cons pe_str pa_nil)) (nomark _)) (pss_one (ps_ret pe_bl)) pss_nil)))
    (pss_cons (ps_if (pt_not (pt_val (pe_callB call_isinst rfl m_isinstance bb_isinstance (pa_cons (pv 1) (pa_cons (pe_glob (v := .ref ca.C_Family) rfl CA.m_Family rfl) pa_nil))))) (pss_one (ps_ret pe_bl)) pss_nil)
    (pss_cons (ps_set (i := 7) sc_law.nd rfl (Or.inl rfl) (pe_op op_mod (pcall d__law_cell_at hr (pa_cons (pv 0) (pa_cons pe_int pa_nil))) pe_int))
    (pss_cons (ps_for PassesOwn.never rfl (pi_list (pe_lst (pa_cons (pv 2) (pa_cons (pv 7) (pa_cons (pv 2) pa_nil))))) (pg_name (i := 8) sc_law.nd rfl (Or.inl rfl)) (pss_cons (ps_set (i := 9) sc_law.nd rfl (Or.inl rfl) (pe_ix ix_list (pcall d__law_counts hr (pa_cons pe_int pa_nil)) (pv 8) (fun _ _ => rfl)))
    (pss_cons (ps_set (i := 10) sc_law.nd rfl (Or.inl rfl) (pe_eit (pmeth (pv 1) CA.c_Bows CA.mt_Bows_thing_of d_Bows__Family_thing_of hr (pa_cons (pv 8) (pa_cons (pe_op op_sub (pe_op op_sub (pv 9) pe_int) (pe_op op_mod (pv 4) (pv 9))) pa_nil))) (pe_eit (pmeth (pv 1) CA.c_Rooms CA.mt_Rooms_thing_of d_Rooms__Family_thing_of hr (pa_cons (pv 8) (pa_cons (pe_op op_sub (pe_op op_sub (pv 9) pe_int) (pe_op op_mod (pv 4) (pv 9))) pa_nil))) (pe_eit (pmeth (pv 1) CA.c_Floors CA.mt_Floors_thing_of d_Floors__Family_thing_of hr (pa_cons (pv 8) (pa_cons (pe_op op_sub (pe_op op_sub (pv 9) pe_int) (pe_op op_mod (pv 4) (pv 9))) pa_nil))) (pmeth (pv 1) CA.c_Turns CA.mt_Turns_thing_of d_Turns__Family_thing_of hr (pa_cons (pv 8) (pa_cons (pe_op op_sub (pe_op op_sub (pv 9) pe_int) (pe_op op_mod (pv 4) (pv 9))) pa_nil)))))))
    (pss_one (ps_if (PW.pt (pw_or (pt_cmpR op_ne (pe_eit (pmeth (pv 1) CA.c_Bows CA.mt_Bows_many d_Bows__Family_many hr (pa_cons (pv 8) pa_nil)) (pe_eit (pmeth (pv 1) CA.c_Rooms CA.mt_Rooms_many d_Rooms__Family_many hr (pa_cons (pv 8) pa_nil)) (pe_eit (pmeth (pv 1) CA.c_Floors CA.mt_Floors_many d_Floors__Family_many hr (pa_cons (pv 8) pa_nil)) (pmeth (pv 1) CA.c_Turns CA.mt_Turns_many d_Turns__Family_many hr (pa_cons (pv 8) pa_nil))))) (pv 9) (nomark _)) (pw_or1 (pt_cmpR op_ne (pe_eit (pmeth (pv 1) CA.c_Bows CA.mt_Bows_size_of d_Bows__size_of hr (pa_cons (pv 10) pa_nil)) (pe_eit (pmeth (pv 1) CA.c_Rooms CA.mt_Rooms_size_of d_Rooms__size_of hr (pa_cons (pv 10) pa_nil)) (pe_eit (pmeth (pv 1) CA.c_Floors CA.mt_Floors_size_of d_Floors__size_of hr (pa_cons (pv 10) pa_nil)) (pmeth (pv 1) CA.c_Turns CA.mt_Turns_size_of d_Turns__size_of hr (pa_cons (pv 10) pa_nil))))) (pv 8) (nomark _))))) (pss_one (ps_ret pe_bl)) pss_nil)))))
    (pss_one (ps_ret pe_bl))))))))))), ?_⟩
  have cpos : ∀ k : Nat, k ≤ 40 → 1 ≤ cR k := fun k hk => by rw [← sh_cR (by omega)]; exact sh_pos k
  have cat : ∀ k : Nat, k ≤ 40 → atI (((List.range (40 + 1)).map cR).map V.int) (k : Int) = some (.int (cR k)) := fun k hk => atI_nat (by
    rw [List.getElem?_map, List.getElem?_map, List.getElem?_range (by omega)]
    rfl)
  have w0 := Int.emod_nonneg (ns.getD (0 : Int).toNat 0) (show (4 : Int) ≠ 0 by decide)
  have w3 := Int.emod_lt_of_pos (ns.getD (0 : Int).toNat 0) (show (0 : Int) < 4 by decide)
  have z0 := Int.emod_nonneg (ns.getD (0 : Int).toNat 0 / 4) (show (41 : Int) ≠ 0 by decide)
  have z1 := Int.emod_lt_of_pos (ns.getD (0 : Int).toNat 0 / 4) (show (0 : Int) < 41 by decide)
  have g0 := Int.emod_nonneg (ns.getD (3 : Int).toNat 0) (show (41 : Int) ≠ 0 by decide)
  have g1 := Int.emod_lt_of_pos (ns.getD (3 : Int).toNat 0) (show (0 : Int) < 41 by decide)
  refine ⟨_, rfl, a, ns, 0, rfl, hS, by decide, _, _, rfl, rfl, pm (by decide), ?_⟩
  try dsimp only
  obtain ⟨w, ew0⟩ : ∃ w, ns.getD (0 : Int).toNat 0 % 4 = w := ⟨_, rfl⟩
  rw [ew0] at w0 w3 ⊢
  clear ew0
  refine ⟨w, rfl, w0, w3, fun x dx fs H1 s1 => ?_⟩
  refine ⟨fun ew hx fl => ?_, fun ew hx fl => ?_, fun ew hx fl => ?_, fun ew hx fl => ?_⟩
  · skip
    subst ew
    obtain ⟨x1, x2, x3, x4⟩ : (((0 : Nat) = 0 → H1 x = some (.ins ca.C_Bows dx fs)) ∧ ((0 : Nat) = 1 → H1 x = some (.ins ca.C_Rooms dx fs)) ∧ ((0 : Nat) = 2 → H1 x = some (.ins ca.C_Floors dx fs)) ∧ ((0 : Nat) = 3 → H1 x = some (.ins ca.C_Turns dx fs))) := ⟨fun _ => hx, fun e => absurd e (by decide), fun e => absurd e (by decide), fun e => absurd e (by decide)⟩
    refine ⟨_, rfl, a, ns, 0, rfl, s1.seq hS, by decide, _, _, rfl, rfl, ⟨by decide, by decide +kernel⟩, _, _, rfl, rfl, pm (by decide), ?_⟩
    try dsimp only
    obtain ⟨n, en⟩ : ∃ n : Nat, ns.getD (0 : Int).toNat 0 / 4 % 41 = (n : Int) := ⟨(ns.getD (0 : Int).toNat 0 / 4 % 41).toNat, by omega⟩
    rw [en]
    have n40 : n ≤ 40 := by omega
    have cn := cpos n n40
    have ca0 := fun j hj => cat j hj
    refine ⟨40, rfl, by decide, fun pc H2 s2 fc hc => ⟨_, rfl, pc, _, _, _, rfl, rfl, SqL.of hc, ca0 n n40, ?_⟩⟩
    have t2 := s1.trans s2
    refine ⟨_, rfl, a, ns, 1, rfl, t2.seq hS, by decide, _, _, rfl, rfl, ⟨by decide, by decide, by decide⟩, _, _, rfl, rfl, (by show (0 : Int) < 10 ^ 60; decide), ?_⟩
    have y0 := Int.emod_nonneg (ns.getD (1 : Int).toNat 0) (show (10 : Int) ^ 60 ≠ 0 by decide)
    refine ⟨fun σ H' => ∃ (f : Int) (o5 o6 o7 o8 o9 o10 : Option V), σ = [some (.ref a), some (.ref x), some (.int (n : Int)), some (.int (cR n)), some (.int f), o5, o6, o7, o8, o9, o10] ∧ H2 = H' ∧ 0 ≤ f, ?_, ?_⟩
    · refine ⟨_, rfl, a, ns, 2, rfl, t2.seq hS, by decide, _, _, rfl, rfl, pm (by decide), rfl, _, rfl, ite2 (fun _ => ?_) (fun _ => ⟨_, _, _, _, _, _, _, rfl, rfl, y0⟩)⟩
      exact ⟨_, rfl, _, _, rfl, rfl, pm (by decide), _, _, _, _, _, _, _, rfl, rfl, Int.emod_nonneg _ (by decide)⟩
    rintro σ H' ⟨f, o5, o6, o7, o8, o9, o10, rfl, rfl, f0⟩
    have y1 := fun e => s2 _ _ (x1 e)
    have y2 := fun e => s2 _ _ (x2 e)
    have y3 := fun e => s2 _ _ (x3 e)
    have y4 := fun e => s2 _ _ (x4 e)
    have hx2 := s2 _ _ hx
    refine ⟨_, rfl, _, _, rfl, rfl, _, _, rfl, rfl, _, rfl, _, _, rfl, rfl, (by show 2 ≤ sizeLine; decide), fun l1 hl1 => ?_⟩
    have v5 := Same.new (Same.refl H2) hl1 (.lst [.int (41 + f), .int (0 - 1 - f)])
    refine ⟨l1, rfl, ⟨_, SqL.of upd_same⟩, for_list (xs := [.int (41 + f), .int (0 - 1 - f)]) (fun i σ H' => ∃ (o5 o6 o7 o8 o9 o10 : Option V), σ = [some (.ref a), some (.ref x), some (.int (n : Int)), some (.int (cR n)), some (.int f), o5, o6, o7, o8, o9, o10] ∧ Same H2 H' ∧ H' l1 = some (.lst [.int (41 + f), .int (0 - 1 - f)])) ⟨_, _, _, _, _, _, rfl, v5, upd_same⟩ (fun i σ H' _ h => by obtain ⟨_, _, _, _, _, _, _, _, h⟩ := h; exact SqL.of h) ?_ ?_⟩
    · rintro i v σ H5 hv ⟨o5, o6, o7, o8, o9, o10, rfl, sm, hl5⟩
      obtain ⟨c, rfl, hc⟩ : ∃ c, v = V.int c ∧ (c < 0 ∨ 40 < c) := by
        have := List.mem_of_getElem? hv
        simp only [List.mem_cons, List.not_mem_nil, or_false] at this
        rcases this with rfl | rfl
        · exact ⟨_, rfl, .inr (by omega)⟩
        · exact ⟨_, rfl, .inl (by omega)⟩
      refine ⟨_, rfl, _, rfl, x, dx, fs, _, 0, c, rfl, by decide, fun e => sm _ _ (y1 e), fun e => sm _ _ (y2 e), fun e => sm _ _ (y3 e), fun e => sm _ _ (y4 e), fl, hc, fun p H6 s6 f6 h6 => ?_⟩
      refine ne_told h6 fun H7 s7 => ⟨_, rfl, iteF ?_⟩
      have s57 := s6.trans s7
      have sm7 := sm.trans s57
      refine ⟨_, rfl, _, _, rfl, rfl, _, rfl, _, _, rfl, rfl, (by show 3 ≤ sizeLine; decide), fun l2 hl2 => ?_⟩
      have v8 := Same.new (Same.refl H7) hl2 (.lst [.int 0, .int (cR n), .int (0 - 1 - f)])
      refine ⟨l2, rfl, ⟨_, SqL.of upd_same⟩, for_list (xs := [.int 0, .int (cR n), .int (0 - 1 - f)]) (fun i σ H' => ∃ (o6 o7 o8 o9 o10 : Option V), σ = [some (.ref a), some (.ref x), some (.int (n : Int)), some (.int (cR n)), some (.int f), some (.int c), o6, o7, o8, o9, o10] ∧ Same H7 H' ∧ H' l2 = some (.lst [.int 0, .int (cR n), .int (0 - 1 - f)])) ⟨_, _, _, _, _, rfl, v8, upd_same⟩ (fun i σ H' _ h => by obtain ⟨_, _, _, _, _, _, _, h⟩ := h; exact SqL.of h) ?_ ?_⟩
      · rintro i v σ H8 hv ⟨o6, o7, o8, o9, o10, rfl, s78, hl8⟩
        obtain ⟨b, rfl⟩ : ∃ b, v = V.int b := by
          have := List.mem_of_getElem? hv
          simp only [List.mem_cons, List.not_mem_nil, or_false] at this
          rcases this with rfl | rfl | rfl <;> exact ⟨_, rfl⟩
        have sm8 := sm7.trans s78
        refine ⟨_, rfl, _, rfl, _, rfl, x, dx, fs, _, 0, c, b, _, rfl, by decide, fun e => sm8 _ _ (y1 e), fun e => sm8 _ _ (y2 e), fun e => sm8 _ _ (y3 e), fun e => sm8 _ _ (y4 e), fl, .inl ⟨hc, rfl⟩, fun p HA sA fA hA => ?_⟩
        refine ne_told hA fun HB sB => ⟨_, rfl, iteF ?_⟩
        have sAB := sA.trans sB
        exact ⟨_, _, _, _, _, rfl, s78.trans sAB, sAB _ _ hl8⟩
      · rintro σ H8 ⟨o6, o7, o8, o9, o10, rfl, s78, _⟩
        exact ⟨_, _, _, _, _, _, rfl, sm7.trans s78, (s57.trans s78) _ _ hl5⟩
    rintro σ H5 ⟨o5, o6, o7, o8, o9, o10, rfl, sm5, _⟩
    refine ⟨_, rfl, _, rfl, _, rfl, _, _, rfl, rfl, _, _, rfl, rfl, _, _, rfl, rfl, _, rfl, _, _, rfl, rfl, (by show 4 ≤ sizeLine; decide), fun l2 hl2 => ?_⟩
    have v6 := Same.new sm5 hl2 (.lst [.int (cR n), .int (cR n + f), .int (0 - 1), .int (0 - 1 - f)])
    refine ⟨l2, rfl, ⟨_, SqL.of upd_same⟩, for_list (xs := [.int (cR n), .int (cR n + f), .int (0 - 1), .int (0 - 1 - f)]) (fun i σ H' => ∃ (o5 o6 o7 o8 o9 o10 : Option V), σ = [some (.ref a), some (.ref x), some (.int (n : Int)), some (.int (cR n)), some (.int f), o5, o6, o7, o8, o9, o10] ∧ Same H2 H' ∧ H' l2 = some (.lst [.int (cR n), .int (cR n + f), .int (0 - 1), .int (0 - 1 - f)])) ⟨_, _, _, _, _, _, rfl, v6, upd_same⟩ (fun i σ H' _ h => by obtain ⟨_, _, _, _, _, _, _, _, h⟩ := h; exact SqL.of h) ?_ ?_⟩
    · rintro i v σ H6 hv ⟨o5, o6, o7, o8, o9, o10, rfl, sm, hl5⟩
      obtain ⟨c, rfl, hc⟩ : ∃ c, v = V.int c ∧ (c < 0 ∨ cR n ≤ c) := by
        have := List.mem_of_getElem? hv
        simp only [List.mem_cons, List.not_mem_nil, or_false] at this
        rcases this with rfl | rfl | rfl | rfl
        · exact ⟨_, rfl, .inr (by omega)⟩
        · exact ⟨_, rfl, .inr (by omega)⟩
        · exact ⟨_, rfl, .inl (by omega)⟩
        · exact ⟨_, rfl, .inl (by omega)⟩
      refine ⟨_, rfl, _, rfl, _, rfl, x, dx, fs, _, 0, (n : Int), c, _, rfl, by decide, fun e => sm _ _ (y1 e), fun e => sm _ _ (y2 e), fun e => sm _ _ (y3 e), fun e => sm _ _ (y4 e), fl, .inr ⟨by omega, by omega, hc, rfl⟩, fun p H8 s8 f8 h8 => ?_⟩
      refine ne_told h8 fun H9 s9 => ⟨_, rfl, iteF ?_⟩
      have s79 := s8.trans s9
      exact ⟨_, _, _, _, _, _, rfl, sm.trans s79, s79 _ _ hl5⟩
    rintro σ H6 ⟨o5, o6, o7, o8, o9, o10, rfl, sm6, _⟩
    have t6 := t2.trans sm6
    refine ⟨_, rfl, _, _, _, _, _, rfl, relRef, CA.in_Bows.ty (sm6 _ _ hx2), CA.kit_Bows_Family, _, rfl, iteF ?_⟩
    refine ⟨_, rfl, a, ns, 3, rfl, t6.seq hS, by decide, _, _, rfl, rfl, pm (by decide), ?_⟩
    try dsimp only
    obtain ⟨h, eh⟩ : ∃ h : Nat, ns.getD (3 : Int).toNat 0 % 41 = (h : Int) := ⟨(ns.getD (3 : Int).toNat 0 % 41).toNat, by omega⟩
    rw [eh]
    have h40 : h ≤ 40 := by omega
    refine ⟨_, rfl, _, rfl, _, rfl, (by show 3 ≤ sizeLine; decide), fun l3 hl3 => ?_⟩
    have v7 := Same.new sm6 hl3 (.lst [.int (n : Int), .int (h : Int), .int (n : Int)])
    refine ⟨l3, rfl, ⟨_, SqL.of upd_same⟩, for_list (xs := [.int (n : Int), .int (h : Int), .int (n : Int)]) (fun i σ H' => ∃ (o5 o6 o7 o8 o9 o10 : Option V), σ = [some (.ref a), some (.ref x), some (.int (n : Int)), some (.int (cR n)), some (.int f), o5, o6, o7, o8, o9, o10] ∧ Same H2 H' ∧ H' l3 = some (.lst [.int (n : Int), .int (h : Int), .int (n : Int)])) ⟨_, _, _, _, _, _, rfl, v7, upd_same⟩ (fun i σ H' _ h => by obtain ⟨_, _, _, _, _, _, _, _, h⟩ := h; exact SqL.of h) ?_ ?_⟩
    · rintro i v σ H7 hv ⟨o5, o6, o7, o8, o9, o10, rfl, sm, hl5⟩
      obtain ⟨c, rfl, hc⟩ : ∃ c : Nat, v = V.int (c : Int) ∧ c ≤ 40 := by
        have := List.mem_of_getElem? hv
        simp only [List.mem_cons, List.not_mem_nil, or_false] at this
        rcases this with rfl | rfl | rfl
        · exact ⟨_, rfl, n40⟩
        · exact ⟨_, rfl, h40⟩
        · exact ⟨_, rfl, n40⟩
      have cc := cpos c hc
      have r0 := Int.emod_nonneg f (show cR c ≠ 0 by omega)
      have r1 := Int.emod_lt_of_pos f (show 0 < cR c by omega)
      refine ⟨40, rfl, by decide, fun pd H8 s8 fd hd => ⟨_, rfl, pd, _, _, _, rfl, rfl, SqL.of hd, ca0 c hc, ?_⟩⟩
      have sm8 := sm.trans s8
      have hx8 := sm8 _ _ hx2
      refine (.inl ⟨_, rfl, x, dx, fs, rfl, hx8, fl.no "thing_of" (by decide) (by decide), _, rfl, _, rfl, _, _, rfl, rfl, _, rfl, _, rfl, _, _, rfl, rfl, by omega, _, _, rfl, rfl, x, dx, fs, _, (c : Int), cR c - 1 - f % cR c, rfl, hx8, fl, .inr (.inr ⟨by omega, by omega, by omega, by rw [Int.toNat_natCast]; omega, fun vg H9 s9 th => ?_⟩)⟩)
      rw [Int.toNat_natCast] at th
      have sm9 := sm8.trans s9
      have hx9 := sm9 _ _ hx2
      refine (.inl ⟨_, rfl, x, dx, fs, rfl, hx9, fl.no "many" (by decide) (by decide), _, rfl, x, dx, fs, _, (c : Int), rfl, hx9, fl, .inr ⟨by omega, by omega, _, rfl, rfl, _, rfl, ?_⟩⟩)
      rw [Int.toNat_natCast]
      refine iteNS rfl ((.inl ⟨_, rfl, x, dx, fs, rfl, hx9, fl.no "size_of" (by decide) (by decide), _, rfl, x, vg, c, rfl, th, hc, fun HA sA => ⟨_, rfl, rfl, _, rfl, iteNS rfl ?_⟩⟩))
      exact ⟨_, _, _, _, _, _, rfl, sm9.trans sA, ((s8.trans s9).trans sA) _ _ hl5⟩
    · rintro σ H7 ⟨o5, o6, o7, o8, o9, o10, rfl, sm, _⟩
      exact q _
  · skip
    subst ew
    obtain ⟨x1, x2, x3, x4⟩ : (((1 : Nat) = 0 → H1 x = some (.ins ca.C_Bows dx fs)) ∧ ((1 : Nat) = 1 → H1 x = some (.ins ca.C_Rooms dx fs)) ∧ ((1 : Nat) = 2 → H1 x = some (.ins ca.C_Floors dx fs)) ∧ ((1 : Nat) = 3 → H1 x = some (.ins ca.C_Turns dx fs))) := ⟨fun e => absurd e (by decide), fun _ => hx, fun e => absurd e (by decide), fun e => absurd e (by decide)⟩
    refine ⟨_, rfl, a, ns, 0, rfl, s1.seq hS, by decide, _, _, rfl, rfl, ⟨by decide, by decide +kernel⟩, _, _, rfl, rfl, pm (by decide), ?_⟩
    try dsimp only
    obtain ⟨n, en⟩ : ∃ n : Nat, ns.getD (0 : Int).toNat 0 / 4 % 41 = (n : Int) := ⟨(ns.getD (0 : Int).toNat 0 / 4 % 41).toNat, by omega⟩
    rw [en]
    have n40 : n ≤ 40 := by omega
    have cn := cpos n n40
    have ca0 := fun j hj => cat j hj
    refine ⟨40, rfl, by decide, fun pc H2 s2 fc hc => ⟨_, rfl, pc, _, _, _, rfl, rfl, SqL.of hc, ca0 n n40, ?_⟩⟩
    have t2 := s1.trans s2
    refine ⟨_, rfl, a, ns, 1, rfl, t2.seq hS, by decide, _, _, rfl, rfl, ⟨by decide, by decide, by decide⟩, _, _, rfl, rfl, (by show (0 : Int) < 10 ^ 60; decide), ?_⟩
    have y0 := Int.emod_nonneg (ns.getD (1 : Int).toNat 0) (show (10 : Int) ^ 60 ≠ 0 by decide)
    refine ⟨fun σ H' => ∃ (f : Int) (o5 o6 o7 o8 o9 o10 : Option V), σ = [some (.ref a), some (.ref x), some (.int (n : Int)), some (.int (cR n)), some (.int f), o5, o6, o7, o8, o9, o10] ∧ H2 = H' ∧ 0 ≤ f, ?_, ?_⟩
    · refine ⟨_, rfl, a, ns, 2, rfl, t2.seq hS, by decide, _, _, rfl, rfl, pm (by decide), rfl, _, rfl, ite2 (fun _ => ?_) (fun _ => ⟨_, _, _, _, _, _, _, rfl, rfl, y0⟩)⟩
      exact ⟨_, rfl, _, _, rfl, rfl, pm (by decide), _, _, _, _, _, _, _, rfl, rfl, Int.emod_nonneg _ (by decide)⟩
    rintro σ H' ⟨f, o5, o6, o7, o8, o9, o10, rfl, rfl, f0⟩
    have y1 := fun e => s2 _ _ (x1 e)
    have y2 := fun e => s2 _ _ (x2 e)
    have y3 := fun e => s2 _ _ (x3 e)
    have y4 := fun e => s2 _ _ (x4 e)
    have hx2 := s2 _ _ hx
    refine ⟨_, rfl, _, _, rfl, rfl, _, _, rfl, rfl, _, rfl, _, _, rfl, rfl, (by show 2 ≤ sizeLine; decide), fun l1 hl1 => ?_⟩
    have v5 := Same.new (Same.refl H2) hl1 (.lst [.int (41 + f), .int (0 - 1 - f)])
    refine ⟨l1, rfl, ⟨_, SqL.of upd_same⟩, for_list (xs := [.int (41 + f), .int (0 - 1 - f)]) (fun i σ H' => ∃ (o5 o6 o7 o8 o9 o10 : Option V), σ = [some (.ref a), some (.ref x), some (.int (n : Int)), some (.int (cR n)), some (.int f), o5, o6, o7, o8, o9, o10] ∧ Same H2 H' ∧ H' l1 = some (.lst [.int (41 + f), .int (0 - 1 - f)])) ⟨_, _, _, _, _, _, rfl, v5, upd_same⟩ (fun i σ H' _ h => by obtain ⟨_, _, _, _, _, _, _, _, h⟩ := h; exact SqL.of h) ?_ ?_⟩
    · rintro i v σ H5 hv ⟨o5, o6, o7, o8, o9, o10, rfl, sm, hl5⟩
      obtain ⟨c, rfl, hc⟩ : ∃ c, v = V.int c ∧ (c < 0 ∨ 40 < c) := by
        have := List.mem_of_getElem? hv
        simp only [List.mem_cons, List.not_mem_nil, or_false] at this
        rcases this with rfl | rfl
        · exact ⟨_, rfl, .inr (by omega)⟩
        · exact ⟨_, rfl, .inl (by omega)⟩
      refine ⟨_, rfl, _, rfl, x, dx, fs, _, 1, c, rfl, by decide, fun e => sm _ _ (y1 e), fun e => sm _ _ (y2 e), fun e => sm _ _ (y3 e), fun e => sm _ _ (y4 e), fl, hc, fun p H6 s6 f6 h6 => ?_⟩
      refine ne_told h6 fun H7 s7 => ⟨_, rfl, iteF ?_⟩
      have s57 := s6.trans s7
      have sm7 := sm.trans s57
      refine ⟨_, rfl, _, _, rfl, rfl, _, rfl, _, _, rfl, rfl, (by show 3 ≤ sizeLine; decide), fun l2 hl2 => ?_⟩
      have v8 := Same.new (Same.refl H7) hl2 (.lst [.int 0, .int (cR n), .int (0 - 1 - f)])
      refine ⟨l2, rfl, ⟨_, SqL.of upd_same⟩, for_list (xs := [.int 0, .int (cR n), .int (0 - 1 - f)]) (fun i σ H' => ∃ (o6 o7 o8 o9 o10 : Option V), σ = [some (.ref a), some (.ref x), some (.int (n : Int)), some (.int (cR n)), some (.int f), some (.int c), o6, o7, o8, o9, o10] ∧ Same H7 H' ∧ H' l2 = some (.lst [.int 0, .int (cR n), .int (0 - 1 - f)])) ⟨_, _, _, _, _, rfl, v8, upd_same⟩ (fun i σ H' _ h => by obtain ⟨_, _, _, _, _, _, _, h⟩ := h; exact SqL.of h) ?_ ?_⟩
      · rintro i v σ H8 hv ⟨o6, o7, o8, o9, o10, rfl, s78, hl8⟩
        obtain ⟨b, rfl⟩ : ∃ b, v = V.int b := by
          have := List.mem_of_getElem? hv
          simp only [List.mem_cons, List.not_mem_nil, or_false] at this
          rcases this with rfl | rfl | rfl <;> exact ⟨_, rfl⟩
        have sm8 := sm7.trans s78
        refine ⟨_, rfl, _, rfl, _, rfl, x, dx, fs, _, 1, c, b, _, rfl, by decide, fun e => sm8 _ _ (y1 e), fun e => sm8 _ _ (y2 e), fun e => sm8 _ _ (y3 e), fun e => sm8 _ _ (y4 e), fl, .inl ⟨hc, rfl⟩, fun p HA sA fA hA => ?_⟩
        refine ne_told hA fun HB sB => ⟨_, rfl, iteF ?_⟩
        have sAB := sA.trans sB
        exact ⟨_, _, _, _, _, rfl, s78.trans sAB, sAB _ _ hl8⟩
      · rintro σ H8 ⟨o6, o7, o8, o9, o10, rfl, s78, _⟩
        exact ⟨_, _, _, _, _, _, rfl, sm7.trans s78, (s57.trans s78) _ _ hl5⟩
    rintro σ H5 ⟨o5, o6, o7, o8, o9, o10, rfl, sm5, _⟩
    refine ⟨_, rfl, _, rfl, _, rfl, _, _, rfl, rfl, _, _, rfl, rfl, _, _, rfl, rfl, _, rfl, _, _, rfl, rfl, (by show 4 ≤ sizeLine; decide), fun l2 hl2 => ?_⟩
    have v6 := Same.new sm5 hl2 (.lst [.int (cR n), .int (cR n + f), .int (0 - 1), .int (0 - 1 - f)])
    refine ⟨l2, rfl, ⟨_, SqL.of upd_same⟩, for_list (xs := [.int (cR n), .int (cR n + f), .int (0 - 1), .int (0 - 1 - f)]) (fun i σ H' => ∃ (o5 o6 o7 o8 o9 o10 : Option V), σ = [some (.ref a), some (.ref x), some (.int (n : Int)), some (.int (cR n)), some (.int f), o5, o6, o7, o8, o9, o10] ∧ Same H2 H' ∧ H' l2 = some (.lst [.int (cR n), .int (cR n + f), .int (0 - 1), .int (0 - 1 - f)])) ⟨_, _, _, _, _, _, rfl, v6, upd_same⟩ (fun i σ H' _ h => by obtain ⟨_, _, _, _, _, _, _, _, h⟩ := h; exact SqL.of h) ?_ ?_⟩
    · rintro i v σ H6 hv ⟨o5, o6, o7, o8, o9, o10, rfl, sm, hl5⟩
      obtain ⟨c, rfl, hc⟩ : ∃ c, v = V.int c ∧ (c < 0 ∨ cR n ≤ c) := by
        have := List.mem_of_getElem? hv
        simp only [List.mem_cons, List.not_mem_nil, or_false] at this
        rcases this with rfl | rfl | rfl | rfl
        · exact ⟨_, rfl, .inr (by omega)⟩
        · exact ⟨_, rfl, .inr (by omega)⟩
        · exact ⟨_, rfl, .inl (by omega)⟩
        · exact ⟨_, rfl, .inl (by omega)⟩
      refine ⟨_, rfl, _, rfl, _, rfl, x, dx, fs, _, 1, (n : Int), c, _, rfl, by decide, fun e => sm _ _ (y1 e), fun e => sm _ _ (y2 e), fun e => sm _ _ (y3 e), fun e => sm _ _ (y4 e), fl, .inr ⟨by omega, by omega, hc, rfl⟩, fun p H8 s8 f8 h8 => ?_⟩
      refine ne_told h8 fun H9 s9 => ⟨_, rfl, iteF ?_⟩
      have s79 := s8.trans s9
      exact ⟨_, _, _, _, _, _, rfl, sm.trans s79, s79 _ _ hl5⟩
    rintro σ H6 ⟨o5, o6, o7, o8, o9, o10, rfl, sm6, _⟩
    have t6 := t2.trans sm6
    refine ⟨_, rfl, _, _, _, _, _, rfl, relRef, CA.in_Rooms.ty (sm6 _ _ hx2), CA.kit_Rooms_Family, _, rfl, iteF ?_⟩
    refine ⟨_, rfl, a, ns, 3, rfl, t6.seq hS, by decide, _, _, rfl, rfl, pm (by decide), ?_⟩
    try dsimp only
    obtain ⟨h, eh⟩ : ∃ h : Nat, ns.getD (3 : Int).toNat 0 % 41 = (h : Int) := ⟨(ns.getD (3 : Int).toNat 0 % 41).toNat, by omega⟩
    rw [eh]
    have h40 : h ≤ 40 := by omega
    refine ⟨_, rfl, _, rfl, _, rfl, (by show 3 ≤ sizeLine; decide), fun l3 hl3 => ?_⟩
    have v7 := Same.new sm6 hl3 (.lst [.int (n : Int), .int (h : Int), .int (n : Int)])
    refine ⟨l3, rfl, ⟨_, SqL.of upd_same⟩, for_list (xs := [.int (n : Int), .int (h : Int), .int (n : Int)]) (fun i σ H' => ∃ (o5 o6 o7 o8 o9 o10 : Option V), σ = [some (.ref a), some (.ref x), some (.int (n : Int)), some (.int (cR n)), some (.int f), o5, o6, o7, o8, o9, o10] ∧ Same H2 H' ∧ H' l3 = some (.lst [.int (n : Int), .int (h : Int), .int (n : Int)])) ⟨_, _, _, _, _, _, rfl, v7, upd_same⟩ (fun i σ H' _ h => by obtain ⟨_, _, _, _, _, _, _, _, h⟩ := h; exact SqL.of h) ?_ ?_⟩
    · rintro i v σ H7 hv ⟨o5, o6, o7, o8, o9, o10, rfl, sm, hl5⟩
      obtain ⟨c, rfl, hc⟩ : ∃ c : Nat, v = V.int (c : Int) ∧ c ≤ 40 := by
        have := List.mem_of_getElem? hv
        simp only [List.mem_cons, List.not_mem_nil, or_false] at this
        rcases this with rfl | rfl | rfl
        · exact ⟨_, rfl, n40⟩
        · exact ⟨_, rfl, h40⟩
        · exact ⟨_, rfl, n40⟩
      have cc := cpos c hc
      have r0 := Int.emod_nonneg f (show cR c ≠ 0 by omega)
      have r1 := Int.emod_lt_of_pos f (show 0 < cR c by omega)
      refine ⟨40, rfl, by decide, fun pd H8 s8 fd hd => ⟨_, rfl, pd, _, _, _, rfl, rfl, SqL.of hd, ca0 c hc, ?_⟩⟩
      have sm8 := sm.trans s8
      have hx8 := sm8 _ _ hx2
      refine (.inr (.inl ⟨_, rfl, x, dx, fs, rfl, hx8, fl.no "thing_of" (by decide) (by decide), _, rfl, _, rfl, _, _, rfl, rfl, _, rfl, _, rfl, _, _, rfl, rfl, by omega, _, _, rfl, rfl, x, dx, fs, _, (c : Int), cR c - 1 - f % cR c, rfl, hx8, fl, .inr (.inr ⟨by omega, by omega, by omega, by rw [Int.toNat_natCast]; omega, fun vg H9 s9 th => ?_⟩)⟩))
      rw [Int.toNat_natCast] at th
      have sm9 := sm8.trans s9
      have hx9 := sm9 _ _ hx2
      refine (.inr (.inl ⟨_, rfl, x, dx, fs, rfl, hx9, fl.no "many" (by decide) (by decide), _, rfl, x, dx, fs, _, (c : Int), rfl, hx9, fl, .inr ⟨by omega, by omega, _, rfl, rfl, _, rfl, ?_⟩⟩))
      rw [Int.toNat_natCast]
      refine iteNS rfl ((.inr (.inl ⟨_, rfl, x, dx, fs, rfl, hx9, fl.no "size_of" (by decide) (by decide), _, rfl, x, vg, c, rfl, th, hc, fun HA sA => ⟨_, rfl, rfl, _, rfl, iteNS rfl ?_⟩⟩)))
      exact ⟨_, _, _, _, _, _, rfl, sm9.trans sA, ((s8.trans s9).trans sA) _ _ hl5⟩
    · rintro σ H7 ⟨o5, o6, o7, o8, o9, o10, rfl, sm, _⟩
      exact q _
  · skip
    subst ew
    obtain ⟨x1, x2, x3, x4⟩ : (((2 : Nat) = 0 → H1 x = some (.ins ca.C_Bows dx fs)) ∧ ((2 : Nat) = 1 → H1 x = some (.ins ca.C_Rooms dx fs)) ∧ ((2 : Nat) = 2 → H1 x = some (.ins ca.C_Floors dx fs)) ∧ ((2 : Nat) = 3 → H1 x = some (.ins ca.C_Turns dx fs))) := ⟨fun e => absurd e (by decide), fun e => absurd e (by decide), fun _ => hx, fun e => absurd e (by decide)⟩
    refine ⟨_, rfl, a, ns, 0, rfl, s1.seq hS, by decide, _, _, rfl, rfl, ⟨by decide, by decide +kernel⟩, _, _, rfl, rfl, pm (by decide), ?_⟩
    try dsimp only
    obtain ⟨n, en⟩ : ∃ n : Nat, ns.getD (0 : Int).toNat 0 / 4 % 41 = (n : Int) := ⟨(ns.getD (0 : Int).toNat 0 / 4 % 41).toNat, by omega⟩
    rw [en]
    have n40 : n ≤ 40 := by omega
    have cn := cpos n n40
    have ca0 := fun j hj => cat j hj
    refine ⟨40, rfl, by decide, fun pc H2 s2 fc hc => ⟨_, rfl, pc, _, _, _, rfl, rfl, SqL.of hc, ca0 n n40, ?_⟩⟩
    have t2 := s1.trans s2
    refine ⟨_, rfl, a, ns, 1, rfl, t2.seq hS, by decide, _, _, rfl, rfl, ⟨by decide, by decide, by decide⟩, _, _, rfl, rfl, (by show (0 : Int) < 10 ^ 60; decide), ?_⟩
    have y0 := Int.emod_nonneg (ns.getD (1 : Int).toNat 0) (show (10 : Int) ^ 60 ≠ 0 by decide)
    refine ⟨fun σ H' => ∃ (f : Int) (o5 o6 o7 o8 o9 o10 : Option V), σ = [some (.ref a), some (.ref x), some (.int (n : Int)), some (.int (cR n)), some (.int f), o5, o6, o7, o8, o9, o10] ∧ H2 = H' ∧ 0 ≤ f, ?_, ?_⟩
    · refine ⟨_, rfl, a, ns, 2, rfl, t2.seq hS, by decide, _, _, rfl, rfl, pm (by decide), rfl, _, rfl, ite2 (fun _ => ?_) (fun _ => ⟨_, _, _, _, _, _, _, rfl, rfl, y0⟩)⟩
      exact ⟨_, rfl, _, _, rfl, rfl, pm (by decide), _, _, _, _, _, _, _, rfl, rfl, Int.emod_nonneg _ (by decide)⟩
    rintro σ H' ⟨f, o5, o6, o7, o8, o9, o10, rfl, rfl, f0⟩
    have y1 := fun e => s2 _ _ (x1 e)
    have y2 := fun e => s2 _ _ (x2 e)
    have y3 := fun e => s2 _ _ (x3 e)
    have y4 := fun e => s2 _ _ (x4 e)
    have hx2 := s2 _ _ hx
    refine ⟨_, rfl, _, _, rfl, rfl, _, _, rfl, rfl, _, rfl, _, _, rfl, rfl, (by show 2 ≤ sizeLine; decide), fun l1 hl1 => ?_⟩
    have v5 := Same.new (Same.refl H2) hl1 (.lst [.int (41 + f), .int (0 - 1 - f)])
    refine ⟨l1, rfl, ⟨_, SqL.of upd_same⟩, for_list (xs := [.int (41 + f), .int (0 - 1 - f)]) (fun i σ H' => ∃ (o5 o6 o7 o8 o9 o10 : Option V), σ = [some (.ref a), some (.ref x), some (.int (n : Int)), some (.int (cR n)), some (.int f), o5, o6, o7, o8, o9, o10] ∧ Same H2 H' ∧ H' l1 = some (.lst [.int (41 + f), .int (0 - 1 - f)])) ⟨_, _, _, _, _, _, rfl, v5, upd_same⟩ (fun i σ H' _ h => by obtain ⟨_, _, _, _, _, _, _, _, h⟩ := h; exact SqL.of h) ?_ ?_⟩
    · rintro i v σ H5 hv ⟨o5, o6, o7, o8, o9, o10, rfl, sm, hl5⟩
      obtain ⟨c, rfl, hc⟩ : ∃ c, v = V.int c ∧ (c < 0 ∨ 40 < c) := by
        have := List.mem_of_getElem? hv
        simp only [List.mem_cons, List.not_mem_nil, or_false] at this
        rcases this with rfl | rfl
        · exact ⟨_, rfl, .inr (by omega)⟩
        · exact ⟨_, rfl, .inl (by omega)⟩
      refine ⟨_, rfl, _, rfl, x, dx, fs, _, 2, c, rfl, by decide, fun e => sm _ _ (y1 e), fun e => sm _ _ (y2 e), fun e => sm _ _ (y3 e), fun e => sm _ _ (y4 e), fl, hc, fun p H6 s6 f6 h6 => ?_⟩
      refine ne_told h6 fun H7 s7 => ⟨_, rfl, iteF ?_⟩
      have s57 := s6.trans s7
      have sm7 := sm.trans s57
      refine ⟨_, rfl, _, _, rfl, rfl, _, rfl, _, _, rfl, rfl, (by show 3 ≤ sizeLine; decide), fun l2 hl2 => ?_⟩
      have v8 := Same.new (Same.refl H7) hl2 (.lst [.int 0, .int (cR n), .int (0 - 1 - f)])
      refine ⟨l2, rfl, ⟨_, SqL.of upd_same⟩, for_list (xs := [.int 0, .int (cR n), .int (0 - 1 - f)]) (fun i σ H' => ∃ (o6 o7 o8 o9 o10 : Option V), σ = [some (.ref a), some (.ref x), some (.int (n : Int)), some (.int (cR n)), some (.int f), some (.int c), o6, o7, o8, o9, o10] ∧ Same H7 H' ∧ H' l2 = some (.lst [.int 0, .int (cR n), .int (0 - 1 - f)])) ⟨_, _, _, _, _, rfl, v8, upd_same⟩ (fun i σ H' _ h => by obtain ⟨_, _, _, _, _, _, _, h⟩ := h; exact SqL.of h) ?_ ?_⟩
      · rintro i v σ H8 hv ⟨o6, o7, o8, o9, o10, rfl, s78, hl8⟩
        obtain ⟨b, rfl⟩ : ∃ b, v = V.int b := by
          have := List.mem_of_getElem? hv
          simp only [List.mem_cons, List.not_mem_nil, or_false] at this
          rcases this with rfl | rfl | rfl <;> exact ⟨_, rfl⟩
        have sm8 := sm7.trans s78
        refine ⟨_, rfl, _, rfl, _, rfl, x, dx, fs, _, 2, c, b, _, rfl, by decide, fun e => sm8 _ _ (y1 e), fun e => sm8 _ _ (y2 e), fun e => sm8 _ _ (y3 e), fun e => sm8 _ _ (y4 e), fl, .inl ⟨hc, rfl⟩, fun p HA sA fA hA => ?_⟩
        refine ne_told hA fun HB sB => ⟨_, rfl, iteF ?_⟩
        have sAB := sA.trans sB
        exact ⟨_, _, _, _, _, rfl, s78.trans sAB, sAB _ _ hl8⟩
      · rintro σ H8 ⟨o6, o7, o8, o9, o10, rfl, s78, _⟩
        exact ⟨_, _, _, _, _, _, rfl, sm7.trans s78, (s57.trans s78) _ _ hl5⟩
    rintro σ H5 ⟨o5, o6, o7, o8, o9, o10, rfl, sm5, _⟩
    refine ⟨_, rfl, _, rfl, _, rfl, _, _, rfl, rfl, _, _, rfl, rfl, _, _, rfl, rfl, _, rfl, _, _, rfl, rfl, (by show 4 ≤ sizeLine; decide), fun l2 hl2 => ?_⟩
    have v6 := Same.new sm5 hl2 (.lst [.int (cR n), .int (cR n + f), .int (0 - 1), .int (0 - 1 - f)])
    refine ⟨l2, rfl, ⟨_, SqL.of upd_same⟩, for_list (xs := [.int (cR n), .int (cR n + f), .int (0 - 1), .int (0 - 1 - f)]) (fun i σ H' => ∃ (o5 o6 o7 o8 o9 o10 : Option V), σ = [some (.ref a), some (.ref x), some (.int (n : Int)), some (.int (cR n)), some (.int f), o5, o6, o7, o8, o9, o10] ∧ Same H2 H' ∧ H' l2 = some (.lst [.int (cR n), .int (cR n + f), .int (0 - 1), .int (0 - 1 - f)])) ⟨_, _, _, _, _, _, rfl, v6, upd_same⟩ (fun i σ H' _ h => by obtain ⟨_, _, _, _, _, _, _, _, h⟩ := h; exact SqL.of h) ?_ ?_⟩
    · rintro i v σ H6 hv ⟨o5, o6, o7, o8, o9, o10, rfl, sm, hl5⟩
      obtain ⟨c, rfl, hc⟩ : ∃ c, v = V.int c ∧ (c < 0 ∨ cR n ≤ c) := by
        have := List.mem_of_getElem? hv
        simp only [List.mem_cons, List.not_mem_nil, or_false] at this
        rcases this with rfl | rfl | rfl | rfl
        · exact ⟨_, rfl, .inr (by omega)⟩
        · exact ⟨_, rfl, .inr (by omega)⟩
        · exact ⟨_, rfl, .inl (by omega)⟩
        · exact ⟨_, rfl, .inl (by omega)⟩
      refine ⟨_, rfl, _, rfl, _, rfl, x, dx, fs, _, 2, (n : Int), c, _, rfl, by decide, fun e => sm _ _ (y1 e), fun e => sm _ _ (y2 e), fun e => sm _ _ (y3 e), fun e => sm _ _ (y4 e), fl, .inr ⟨by omega, by omega, hc, rfl⟩, fun p H8 s8 f8 h8 => ?_⟩
      refine ne_told h8 fun H9 s9 => ⟨_, rfl, iteF ?_⟩
      have s79 := s8.trans s9
      exact ⟨_, _, _, _, _, _, rfl, sm.trans s79, s79 _ _ hl5⟩
    rintro σ H6 ⟨o5, o6, o7, o8, o9, o10, rfl, sm6, _⟩
    have t6 := t2.trans sm6
    refine ⟨_, rfl, _, _, _, _, _, rfl, relRef, CA.in_Floors.ty (sm6 _ _ hx2), CA.kit_Floors_Family, _, rfl, iteF ?_⟩
    refine ⟨_, rfl, a, ns, 3, rfl, t6.seq hS, by decide, _, _, rfl, rfl, pm (by decide), ?_⟩
    try dsimp only
    obtain ⟨h, eh⟩ : ∃ h : Nat, ns.getD (3 : Int).toNat 0 % 41 = (h : Int) := ⟨(ns.getD (3 : Int).toNat 0 % 41).toNat, by omega⟩
    rw [eh]
    have h40 : h ≤ 40 := by omega
    refine ⟨_, rfl, _, rfl, _, rfl, (by show 3 ≤ sizeLine; decide), fun l3 hl3 => ?_⟩
    have v7 := Same.new sm6 hl3 (.lst [.int (n : Int), .int (h : Int), .int (n : Int)])
    refine ⟨l3, rfl, ⟨_, SqL.of upd_same⟩, for_list (xs := [.int (n : Int), .int (h : Int), .int (n : Int)]) (fun i σ H' => ∃ (o5 o6 o7 o8 o9 o10 : Option V), σ = [some (.ref a), some (.ref x), some (.int (n : Int)), some (.int (cR n)), some (.int f), o5, o6, o7, o8, o9, o10] ∧ Same H2 H' ∧ H' l3 = some (.lst [.int (n : Int), .int (h : Int), .int (n : Int)])) ⟨_, _, _, _, _, _, rfl, v7, upd_same⟩ (fun i σ H' _ h => by obtain ⟨_, _, _, _, _, _, _, _, h⟩ := h; exact SqL.of h) ?_ ?_⟩
    · rintro i v σ H7 hv ⟨o5, o6, o7, o8, o9, o10, rfl, sm, hl5⟩
      obtain ⟨c, rfl, hc⟩ : ∃ c : Nat, v = V.int (c : Int) ∧ c ≤ 40 := by
        have := List.mem_of_getElem? hv
        simp only [List.mem_cons, List.not_mem_nil, or_false] at this
        rcases this with rfl | rfl | rfl
        · exact ⟨_, rfl, n40⟩
        · exact ⟨_, rfl, h40⟩
        · exact ⟨_, rfl, n40⟩
      have cc := cpos c hc
      have r0 := Int.emod_nonneg f (show cR c ≠ 0 by omega)
      have r1 := Int.emod_lt_of_pos f (show 0 < cR c by omega)
      refine ⟨40, rfl, by decide, fun pd H8 s8 fd hd => ⟨_, rfl, pd, _, _, _, rfl, rfl, SqL.of hd, ca0 c hc, ?_⟩⟩
      have sm8 := sm.trans s8
      have hx8 := sm8 _ _ hx2
      refine (.inr (.inr (.inl ⟨_, rfl, x, dx, fs, rfl, hx8, fl.no "thing_of" (by decide) (by decide), _, rfl, _, rfl, _, _, rfl, rfl, _, rfl, _, rfl, _, _, rfl, rfl, by omega, _, _, rfl, rfl, x, dx, fs, _, (c : Int), cR c - 1 - f % cR c, rfl, hx8, fl, .inr (.inr ⟨by omega, by omega, by omega, by rw [Int.toNat_natCast]; omega, fun vg H9 s9 th => ?_⟩)⟩)))
      rw [Int.toNat_natCast] at th
      have sm9 := sm8.trans s9
      have hx9 := sm9 _ _ hx2
      refine (.inr (.inr (.inl ⟨_, rfl, x, dx, fs, rfl, hx9, fl.no "many" (by decide) (by decide), _, rfl, x, dx, fs, _, (c : Int), rfl, hx9, fl, .inr ⟨by omega, by omega, _, rfl, rfl, _, rfl, ?_⟩⟩)))
      rw [Int.toNat_natCast]
      refine iteNS rfl ((.inr (.inr (.inl ⟨_, rfl, x, dx, fs, rfl, hx9, fl.no "size_of" (by decide) (by decide), _, rfl, x, vg, c, rfl, th, hc, fun HA sA => ⟨_, rfl, rfl, _, rfl, iteNS rfl ?_⟩⟩))))
      exact ⟨_, _, _, _, _, _, rfl, sm9.trans sA, ((s8.trans s9).trans sA) _ _ hl5⟩
    · rintro σ H7 ⟨o5, o6, o7, o8, o9, o10, rfl, sm, _⟩
      exact q _
  · skip
    subst ew
    obtain ⟨x1, x2, x3, x4⟩ : (((3 : Nat) = 0 → H1 x = some (.ins ca.C_Bows dx fs)) ∧ ((3 : Nat) = 1 → H1 x = some (.ins ca.C_Rooms dx fs)) ∧ ((3 : Nat) = 2 → H1 x = some (.ins ca.C_Floors dx fs)) ∧ ((3 : Nat) = 3 → H1 x = some (.ins ca.C_Turns dx fs))) := ⟨fun e => absurd e (by decide), fun e => absurd e (by decide), fun e => absurd e (by decide), fun _ => hx⟩
    refine ⟨_, rfl, a, ns, 0, rfl, s1.seq hS, by decide, _, _, rfl, rfl, ⟨by decide, by decide +kernel⟩, _, _, rfl, rfl, pm (by decide), ?_⟩
    try dsimp only
    obtain ⟨n, en⟩ : ∃ n : Nat, ns.getD (0 : Int).toNat 0 / 4 % 41 = (n : Int) := ⟨(ns.getD (0 : Int).toNat 0 / 4 % 41).toNat, by omega⟩
    rw [en]
    have n40 : n ≤ 40 := by omega
    have cn := cpos n n40
    have ca0 := fun j hj => cat j hj
    refine ⟨40, rfl, by decide, fun pc H2 s2 fc hc => ⟨_, rfl, pc, _, _, _, rfl, rfl, SqL.of hc, ca0 n n40, ?_⟩⟩
    have t2 := s1.trans s2
    refine ⟨_, rfl, a, ns, 1, rfl, t2.seq hS, by decide, _, _, rfl, rfl, ⟨by decide, by decide, by decide⟩, _, _, rfl, rfl, (by show (0 : Int) < 10 ^ 60; decide), ?_⟩
    have y0 := Int.emod_nonneg (ns.getD (1 : Int).toNat 0) (show (10 : Int) ^ 60 ≠ 0 by decide)
    refine ⟨fun σ H' => ∃ (f : Int) (o5 o6 o7 o8 o9 o10 : Option V), σ = [some (.ref a), some (.ref x), some (.int (n : Int)), some (.int (cR n)), some (.int f), o5, o6, o7, o8, o9, o10] ∧ H2 = H' ∧ 0 ≤ f, ?_, ?_⟩
    · refine ⟨_, rfl, a, ns, 2, rfl, t2.seq hS, by decide, _, _, rfl, rfl, pm (by decide), rfl, _, rfl, ite2 (fun _ => ?_) (fun _ => ⟨_, _, _, _, _, _, _, rfl, rfl, y0⟩)⟩
      exact ⟨_, rfl, _, _, rfl, rfl, pm (by decide), _, _, _, _, _, _, _, rfl, rfl, Int.emod_nonneg _ (by decide)⟩
    rintro σ H' ⟨f, o5, o6, o7, o8, o9, o10, rfl, rfl, f0⟩
    have y1 := fun e => s2 _ _ (x1 e)
    have y2 := fun e => s2 _ _ (x2 e)
    have y3 := fun e => s2 _ _ (x3 e)
    have y4 := fun e => s2 _ _ (x4 e)
    have hx2 := s2 _ _ hx
    refine ⟨_, rfl, _, _, rfl, rfl, _, _, rfl, rfl, _, rfl, _, _, rfl, rfl, (by show 2 ≤ sizeLine; decide), fun l1 hl1 => ?_⟩
    have v5 := Same.new (Same.refl H2) hl1 (.lst [.int (41 + f), .int (0 - 1 - f)])
    refine ⟨l1, rfl, ⟨_, SqL.of upd_same⟩, for_list (xs := [.int (41 + f), .int (0 - 1 - f)]) (fun i σ H' => ∃ (o5 o6 o7 o8 o9 o10 : Option V), σ = [some (.ref a), some (.ref x), some (.int (n : Int)), some (.int (cR n)), some (.int f), o5, o6, o7, o8, o9, o10] ∧ Same H2 H' ∧ H' l1 = some (.lst [.int (41 + f), .int (0 - 1 - f)])) ⟨_, _, _, _, _, _, rfl, v5, upd_same⟩ (fun i σ H' _ h => by obtain ⟨_, _, _, _, _, _, _, _, h⟩ := h; exact SqL.of h) ?_ ?_⟩
    · rintro i v σ H5 hv ⟨o5, o6, o7, o8, o9, o10, rfl, sm, hl5⟩
      obtain ⟨c, rfl, hc⟩ : ∃ c, v = V.int c ∧ (c < 0 ∨ 40 < c) := by
        have := List.mem_of_getElem? hv
        simp only [List.mem_cons, List.not_mem_nil, or_false] at this
        rcases this with rfl | rfl
        · exact ⟨_, rfl, .inr (by omega)⟩
        · exact ⟨_, rfl, .inl (by omega)⟩
      refine ⟨_, rfl, _, rfl, x, dx, fs, _, 3, c, rfl, by decide, fun e => sm _ _ (y1 e), fun e => sm _ _ (y2 e), fun e => sm _ _ (y3 e), fun e => sm _ _ (y4 e), fl, hc, fun p H6 s6 f6 h6 => ?_⟩
      refine ne_told h6 fun H7 s7 => ⟨_, rfl, iteF ?_⟩
      have s57 := s6.trans s7
      have sm7 := sm.trans s57
      refine ⟨_, rfl, _, _, rfl, rfl, _, rfl, _, _, rfl, rfl, (by show 3 ≤ sizeLine; decide), fun l2 hl2 => ?_⟩
      have v8 := Same.new (Same.refl H7) hl2 (.lst [.int 0, .int (cR n), .int (0 - 1 - f)])
      refine ⟨l2, rfl, ⟨_, SqL.of upd_same⟩, for_list (xs := [.int 0, .int (cR n), .int (0 - 1 - f)]) (fun i σ H' => ∃ (o6 o7 o8 o9 o10 : Option V), σ = [some (.ref a), some (.ref x), some (.int (n : Int)), some (.int (cR n)), some (.int f), some (.int c), o6, o7, o8, o9, o10] ∧ Same H7 H' ∧ H' l2 = some (.lst [.int 0, .int (cR n), .int (0 - 1 - f)])) ⟨_, _, _, _, _, rfl, v8, upd_same⟩ (fun i σ H' _ h => by obtain ⟨_, _, _, _, _, _, _, h⟩ := h; exact SqL.of h) ?_ ?_⟩
      · rintro i v σ H8 hv ⟨o6, o7, o8, o9, o10, rfl, s78, hl8⟩
        obtain ⟨b, rfl⟩ : ∃ b, v = V.int b := by
          have := List.mem_of_getElem? hv
          simp only [List.mem_cons, List.not_mem_nil, or_false] at this
          rcases this with rfl | rfl | rfl <;> exact ⟨_, rfl⟩
        have sm8 := sm7.trans s78
        refine ⟨_, rfl, _, rfl, _, rfl, x, dx, fs, _, 3, c, b, _, rfl, by decide, fun e => sm8 _ _ (y1 e), fun e => sm8 _ _ (y2 e), fun e => sm8 _ _ (y3 e), fun e => sm8 _ _ (y4 e), fl, .inl ⟨hc, rfl⟩, fun p HA sA fA hA => ?_⟩
        refine ne_told hA fun HB sB => ⟨_, rfl, iteF ?_⟩
        have sAB := sA.trans sB
        exact ⟨_, _, _, _, _, rfl, s78.trans sAB, sAB _ _ hl8⟩
      · rintro σ H8 ⟨o6, o7, o8, o9, o10, rfl, s78, _⟩
        exact ⟨_, _, _, _, _, _, rfl, sm7.trans s78, (s57.trans s78) _ _ hl5⟩
    rintro σ H5 ⟨o5, o6, o7, o8, o9, o10, rfl, sm5, _⟩
    refine ⟨_, rfl, _, rfl, _, rfl, _, _, rfl, rfl, _, _, rfl, rfl, _, _, rfl, rfl, _, rfl, _, _, rfl, rfl, (by show 4 ≤ sizeLine; decide), fun l2 hl2 => ?_⟩
    have v6 := Same.new sm5 hl2 (.lst [.int (cR n), .int (cR n + f), .int (0 - 1), .int (0 - 1 - f)])
    refine ⟨l2, rfl, ⟨_, SqL.of upd_same⟩, for_list (xs := [.int (cR n), .int (cR n + f), .int (0 - 1), .int (0 - 1 - f)]) (fun i σ H' => ∃ (o5 o6 o7 o8 o9 o10 : Option V), σ = [some (.ref a), some (.ref x), some (.int (n : Int)), some (.int (cR n)), some (.int f), o5, o6, o7, o8, o9, o10] ∧ Same H2 H' ∧ H' l2 = some (.lst [.int (cR n), .int (cR n + f), .int (0 - 1), .int (0 - 1 - f)])) ⟨_, _, _, _, _, _, rfl, v6, upd_same⟩ (fun i σ H' _ h => by obtain ⟨_, _, _, _, _, _, _, _, h⟩ := h; exact SqL.of h) ?_ ?_⟩
    · rintro i v σ H6 hv ⟨o5, o6, o7, o8, o9, o10, rfl, sm, hl5⟩
      obtain ⟨c, rfl, hc⟩ : ∃ c, v = V.int c ∧ (c < 0 ∨ cR n ≤ c) := by
        have := List.mem_of_getElem? hv
        simp only [List.mem_cons, List.not_mem_nil, or_false] at this
        rcases this with rfl | rfl | rfl | rfl
        · exact ⟨_, rfl, .inr (by omega)⟩
        · exact ⟨_, rfl, .inr (by omega)⟩
        · exact ⟨_, rfl, .inl (by omega)⟩
        · exact ⟨_, rfl, .inl (by omega)⟩
      refine ⟨_, rfl, _, rfl, _, rfl, x, dx, fs, _, 3, (n : Int), c, _, rfl, by decide, fun e => sm _ _ (y1 e), fun e => sm _ _ (y2 e), fun e => sm _ _ (y3 e), fun e => sm _ _ (y4 e), fl, .inr ⟨by omega, by omega, hc, rfl⟩, fun p H8 s8 f8 h8 => ?_⟩
      refine ne_told h8 fun H9 s9 => ⟨_, rfl, iteF ?_⟩
      have s79 := s8.trans s9
      exact ⟨_, _, _, _, _, _, rfl, sm.trans s79, s79 _ _ hl5⟩
    rintro σ H6 ⟨o5, o6, o7, o8, o9, o10, rfl, sm6, _⟩
    have t6 := t2.trans sm6
    refine ⟨_, rfl, _, _, _, _, _, rfl, relRef, CA.in_Turns.ty (sm6 _ _ hx2), CA.kit_Turns_Family, _, rfl, iteF ?_⟩
    refine ⟨_, rfl, a, ns, 3, rfl, t6.seq hS, by decide, _, _, rfl, rfl, pm (by decide), ?_⟩
    try dsimp only
    obtain ⟨h, eh⟩ : ∃ h : Nat, ns.getD (3 : Int).toNat 0 % 41 = (h : Int) := ⟨(ns.getD (3 : Int).toNat 0 % 41).toNat, by omega⟩
    rw [eh]
    have h40 : h ≤ 40 := by omega
    refine ⟨_, rfl, _, rfl, _, rfl, (by show 3 ≤ sizeLine; decide), fun l3 hl3 => ?_⟩
    have v7 := Same.new sm6 hl3 (.lst [.int (n : Int), .int (h : Int), .int (n : Int)])
    refine ⟨l3, rfl, ⟨_, SqL.of upd_same⟩, for_list (xs := [.int (n : Int), .int (h : Int), .int (n : Int)]) (fun i σ H' => ∃ (o5 o6 o7 o8 o9 o10 : Option V), σ = [some (.ref a), some (.ref x), some (.int (n : Int)), some (.int (cR n)), some (.int f), o5, o6, o7, o8, o9, o10] ∧ Same H2 H' ∧ H' l3 = some (.lst [.int (n : Int), .int (h : Int), .int (n : Int)])) ⟨_, _, _, _, _, _, rfl, v7, upd_same⟩ (fun i σ H' _ h => by obtain ⟨_, _, _, _, _, _, _, _, h⟩ := h; exact SqL.of h) ?_ ?_⟩
    · rintro i v σ H7 hv ⟨o5, o6, o7, o8, o9, o10, rfl, sm, hl5⟩
      obtain ⟨c, rfl, hc⟩ : ∃ c : Nat, v = V.int (c : Int) ∧ c ≤ 40 := by
        have := List.mem_of_getElem? hv
        simp only [List.mem_cons, List.not_mem_nil, or_false] at this
        rcases this with rfl | rfl | rfl
        · exact ⟨_, rfl, n40⟩
        · exact ⟨_, rfl, h40⟩
        · exact ⟨_, rfl, n40⟩
      have cc := cpos c hc
      have r0 := Int.emod_nonneg f (show cR c ≠ 0 by omega)
      have r1 := Int.emod_lt_of_pos f (show 0 < cR c by omega)
      refine ⟨40, rfl, by decide, fun pd H8 s8 fd hd => ⟨_, rfl, pd, _, _, _, rfl, rfl, SqL.of hd, ca0 c hc, ?_⟩⟩
      have sm8 := sm.trans s8
      have hx8 := sm8 _ _ hx2
      refine (.inr (.inr (.inr ⟨_, rfl, x, dx, fs, rfl, hx8, fl.no "thing_of" (by decide) (by decide), _, rfl, _, rfl, _, _, rfl, rfl, _, rfl, _, rfl, _, _, rfl, rfl, by omega, _, _, rfl, rfl, x, dx, fs, _, (c : Int), cR c - 1 - f % cR c, rfl, hx8, fl, .inr (.inr ⟨by omega, by omega, by omega, by rw [Int.toNat_natCast]; omega, fun vg H9 s9 th => ?_⟩)⟩)))
      rw [Int.toNat_natCast] at th
      have sm9 := sm8.trans s9
      have hx9 := sm9 _ _ hx2
      refine (.inr (.inr (.inr ⟨_, rfl, x, dx, fs, rfl, hx9, fl.no "many" (by decide) (by decide), _, rfl, x, dx, fs, _, (c : Int), rfl, hx9, fl, .inr ⟨by omega, by omega, _, rfl, rfl, _, rfl, ?_⟩⟩)))
      rw [Int.toNat_natCast]
      refine iteNS rfl ((.inr (.inr (.inr ⟨_, rfl, x, dx, fs, rfl, hx9, fl.no "size_of" (by decide) (by decide), _, rfl, x, vg, c, rfl, th, hc, fun HA sA => ⟨_, rfl, rfl, _, rfl, iteNS rfl ?_⟩⟩))))
      exact ⟨_, _, _, _, _, _, rfl, sm9.trans sA, ((s8.trans s9).trans sA) _ _ hl5⟩
    · rintro σ H7 ⟨o5, o6, o7, o8, o9, o10, rfl, sm, _⟩
      exact q _
end
noncomputable def spL (K : PySem.W.Frag) : Sp := fun vs H Q _ => ∃ (a : Addr) (ns : List Int), vs = [.ref a] ∧ SqL K H a (ns.map V.int) ∧ ns.length ≤ 63 ∧ ∀ H', Q (.bl true) H'
theorem lenAll1 {P : List Value → Prop} (h : ∀ a0 : Value, P [a0]) : ∀ us : List Value, us.length = 1 → P us
  | [a0], _ => h a0
theorem lenAll2 {P : List Value → Prop} (h : ∀ a0 a1 : Value, P [a0, a1]) : ∀ us : List Value, us.length = 2 → P us
  | [a0, a1], _ => h a0 a1
theorem lenAll3 {P : List Value → Prop} (h : ∀ a0 a1 a2 : Value, P [a0, a1, a2]) : ∀ us : List Value, us.length = 3 → P us
  | [a0, a1, a2], _ => h a0 a1 a2
theorem lenAll4 {P : List Value → Prop} (h : ∀ a0 a1 a2 a3 : Value, P [a0, a1, a2, a3]) : ∀ us : List Value, us.length = 4 → P us
  | [a0, a1, a2, a3], _ => h a0 a1 a2 a3
theorem all_mk {l : PySem.W.OpenLaw} {w : World} {K : PySem.W.Frag} {h : Heap} {mg : Str → Option Value} {fa : Addr} (X : K.In h) (G : h.Ns mainGlobals mg) (hfa : mg "law" = some (.ref fa)) {C_Bows : Addr} {C_Family : Addr} {C_Rooms : Addr} {C_Floors : Addr} {C_Turns : Addr} {C_SplitFamily : Addr}
    {f1 : Addr} {od1 an1 : Option Addr} {sl1 : Array (Option Value)} {oc1 kV1 dc1 pm1 cd1 ct1 : Value}
    {f2 : Addr} {od2 an2 : Option Addr} {sl2 : Array (Option Value)} {oc2 kV2 dc2 pm2 cd2 ct2 : Value}
    {f3 : Addr} {od3 an3 : Option Addr} {sl3 : Array (Option Value)} {oc3 kV3 dc3 pm3 cd3 ct3 : Value}
    {f4 : Addr} {od4 an4 : Option Addr} {sl4 : Array (Option Value)} {oc4 kV4 dc4 pm4 cd4 ct4 : Value}
    {f5 : Addr} {od5 an5 : Option Addr} {sl5 : Array (Option Value)} {oc5 kV5 dc5 pm5 cd5 ct5 : Value}
    {f6 : Addr} {od6 an6 : Option Addr} {sl6 : Array (Option Value)} {oc6 kV6 dc6 pm6 cd6 ct6 : Value}
    {f7 : Addr} {od7 an7 : Option Addr} {sl7 : Array (Option Value)} {oc7 kV7 dc7 pm7 cd7 ct7 : Value}
    {f8 : Addr} {od8 an8 : Option Addr} {sl8 : Array (Option Value)} {oc8 kV8 dc8 pm8 cd8 ct8 : Value}
    {f9 : Addr} {od9 an9 : Option Addr} {sl9 : Array (Option Value)} {oc9 kV9 dc9 pm9 cd9 ct9 : Value}
    {f10 : Addr} {od10 an10 : Option Addr} {sl10 : Array (Option Value)} {oc10 kV10 dc10 pm10 cd10 ct10 : Value}
    {f11 : Addr} {od11 an11 : Option Addr} {sl11 : Array (Option Value)} {oc11 kV11 dc11 pm11 cd11 ct11 : Value}
    {f12 : Addr} {od12 an12 : Option Addr} {sl12 : Array (Option Value)} {oc12 kV12 dc12 pm12 cd12 ct12 : Value}
    {f13 : Addr} {od13 an13 : Option Addr} {sl13 : Array (Option Value)} {oc13 kV13 dc13 pm13 cd13 ct13 : Value}
    {f14 : Addr} {od14 an14 : Option Addr} {sl14 : Array (Option Value)} {oc14 kV14 dc14 pm14 cd14 ct14 : Value}
    {f15 : Addr} {od15 an15 : Option Addr} {sl15 : Array (Option Value)} {oc15 kV15 dc15 pm15 cd15 ct15 : Value}
    {f16 : Addr} {od16 an16 : Option Addr} {sl16 : Array (Option Value)} {oc16 kV16 dc16 pm16 cd16 ct16 : Value}
    {f17 : Addr} {od17 an17 : Option Addr} {sl17 : Array (Option Value)} {oc17 kV17 dc17 pm17 cd17 ct17 : Value}
    {f18 : Addr} {od18 an18 : Option Addr} {sl18 : Array (Option Value)} {oc18 kV18 dc18 pm18 cd18 ct18 : Value}
    {f19 : Addr} {od19 an19 : Option Addr} {sl19 : Array (Option Value)} {oc19 kV19 dc19 pm19 cd19 ct19 : Value}
    {f20 : Addr} {od20 an20 : Option Addr} {sl20 : Array (Option Value)} {oc20 kV20 dc20 pm20 cd20 ct20 : Value}
    {f21 : Addr} {od21 an21 : Option Addr} {sl21 : Array (Option Value)} {oc21 kV21 dc21 pm21 cd21 ct21 : Value}
    {f22 : Addr} {od22 an22 : Option Addr} {sl22 : Array (Option Value)} {oc22 kV22 dc22 pm22 cd22 ct22 : Value}
    {f23 : Addr} {od23 an23 : Option Addr} {sl23 : Array (Option Value)} {oc23 kV23 dc23 pm23 cd23 ct23 : Value}
    {f24 : Addr} {od24 an24 : Option Addr} {sl24 : Array (Option Value)} {oc24 kV24 dc24 pm24 cd24 ct24 : Value}
    {f25 : Addr} {od25 an25 : Option Addr} {sl25 : Array (Option Value)} {oc25 kV25 dc25 pm25 cd25 ct25 : Value}
    {f26 : Addr} {od26 an26 : Option Addr} {sl26 : Array (Option Value)} {oc26 kV26 dc26 pm26 cd26 ct26 : Value}
    {f27 : Addr} {od27 an27 : Option Addr} {sl27 : Array (Option Value)} {oc27 kV27 dc27 pm27 cd27 ct27 : Value}
    {f28 : Addr} {od28 an28 : Option Addr} {sl28 : Array (Option Value)} {oc28 kV28 dc28 pm28 cd28 ct28 : Value}
    {f29 : Addr} {od29 an29 : Option Addr} {sl29 : Array (Option Value)} {oc29 kV29 dc29 pm29 cd29 ct29 : Value}
    {f30 : Addr} {od30 an30 : Option Addr} {sl30 : Array (Option Value)} {oc30 kV30 dc30 pm30 cd30 ct30 : Value}
    {f31 : Addr} {od31 an31 : Option Addr} {sl31 : Array (Option Value)} {oc31 kV31 dc31 pm31 cd31 ct31 : Value}
    {f32 : Addr} {od32 an32 : Option Addr} {sl32 : Array (Option Value)} {oc32 kV32 dc32 pm32 cd32 ct32 : Value}
    {f33 : Addr} {od33 an33 : Option Addr} {sl33 : Array (Option Value)} {oc33 kV33 dc33 pm33 cd33 ct33 : Value}
    {f34 : Addr} {od34 an34 : Option Addr} {sl34 : Array (Option Value)} {oc34 kV34 dc34 pm34 cd34 ct34 : Value}
    {f35 : Addr} {od35 an35 : Option Addr} {sl35 : Array (Option Value)} {oc35 kV35 dc35 pm35 cd35 ct35 : Value}
    {f36 : Addr} {od36 an36 : Option Addr} {sl36 : Array (Option Value)} {oc36 kV36 dc36 pm36 cd36 ct36 : Value}
    {f37 : Addr} {od37 an37 : Option Addr} {sl37 : Array (Option Value)} {oc37 kV37 dc37 pm37 cd37 ct37 : Value}
    {f38 : Addr} {od38 an38 : Option Addr} {sl38 : Array (Option Value)} {oc38 kV38 dc38 pm38 cd38 ct38 : Value}
    {f39 : Addr} {od39 an39 : Option Addr} {sl39 : Array (Option Value)} {oc39 kV39 dc39 pm39 cd39 ct39 : Value}
    {f40 : Addr} {od40 an40 : Option Addr} {sl40 : Array (Option Value)} {oc40 kV40 dc40 pm40 cd40 ct40 : Value}
    {f41 : Addr} {od41 an41 : Option Addr} {sl41 : Array (Option Value)} {oc41 kV41 dc41 pm41 cd41 ct41 : Value}
    {f42 : Addr} {od42 an42 : Option Addr} {sl42 : Array (Option Value)} {oc42 kV42 dc42 pm42 cd42 ct42 : Value}
    {f43 : Addr} {od43 an43 : Option Addr} {sl43 : Array (Option Value)} {oc43 kV43 dc43 pm43 cd43 ct43 : Value}
    {f44 : Addr} {od44 an44 : Option Addr} {sl44 : Array (Option Value)} {oc44 kV44 dc44 pm44 cd44 ct44 : Value}
    {f45 : Addr} {od45 an45 : Option Addr} {sl45 : Array (Option Value)} {oc45 kV45 dc45 pm45 cd45 ct45 : Value}
    {f46 : Addr} {od46 an46 : Option Addr} {sl46 : Array (Option Value)} {oc46 kV46 dc46 pm46 cd46 ct46 : Value}
    {f47 : Addr} {od47 an47 : Option Addr} {sl47 : Array (Option Value)} {oc47 kV47 dc47 pm47 cd47 ct47 : Value}
    {f48 : Addr} {od48 an48 : Option Addr} {sl48 : Array (Option Value)} {oc48 kV48 dc48 pm48 cd48 ct48 : Value}
    {f49 : Addr} {od49 an49 : Option Addr} {sl49 : Array (Option Value)} {oc49 kV49 dc49 pm49 cd49 ct49 : Value}
    {f50 : Addr} {od50 an50 : Option Addr} {sl50 : Array (Option Value)} {oc50 kV50 dc50 pm50 cd50 ct50 : Value}
    {f51 : Addr} {od51 an51 : Option Addr} {sl51 : Array (Option Value)} {oc51 kV51 dc51 pm51 cd51 ct51 : Value}
    {f52 : Addr} {od52 an52 : Option Addr} {sl52 : Array (Option Value)} {oc52 kV52 dc52 pm52 cd52 ct52 : Value}
    {f53 : Addr} {od53 an53 : Option Addr} {sl53 : Array (Option Value)} {oc53 kV53 dc53 pm53 cd53 ct53 : Value}
    {f54 : Addr} {od54 an54 : Option Addr} {sl54 : Array (Option Value)} {oc54 kV54 dc54 pm54 cd54 ct54 : Value}
    {f55 : Addr} {od55 an55 : Option Addr} {sl55 : Array (Option Value)} {oc55 kV55 dc55 pm55 cd55 ct55 : Value}
    (nc_Family : PySem.W.nsIn K mainGlobals "Family" = some (some (.ref C_Family)))
    (nc_Bows : PySem.W.nsIn K mainGlobals "Bows" = some (some (.ref C_Bows)))
    (nc_Rooms : PySem.W.nsIn K mainGlobals "Rooms" = some (some (.ref C_Rooms)))
    (nc_Floors : PySem.W.nsIn K mainGlobals "Floors" = some (some (.ref C_Floors)))
    (nc_Turns : PySem.W.nsIn K mainGlobals "Turns" = some (some (.ref C_Turns)))
    (nc_SplitFamily : PySem.W.nsIn K mainGlobals "SplitFamily" = some (some (.ref C_SplitFamily)))
    (a_Bows_thing_of : PySem.W.findIn K (.ref C_Bows) "thing_of" = some (some (.ref f50)))
    (a_Rooms_thing_of : PySem.W.findIn K (.ref C_Rooms) "thing_of" = some (some (.ref f45)))
    (a_Floors_thing_of : PySem.W.findIn K (.ref C_Floors) "thing_of" = some (some (.ref f39)))
    (a_Turns_thing_of : PySem.W.findIn K (.ref C_Turns) "thing_of" = some (some (.ref f33)))
    (a_Bows_many : PySem.W.findIn K (.ref C_Bows) "many" = some (some (.ref f24)))
    (a_Rooms_many : PySem.W.findIn K (.ref C_Rooms) "many" = some (some (.ref f22)))
    (a_Floors_many : PySem.W.findIn K (.ref C_Floors) "many" = some (some (.ref f20)))
    (a_Turns_many : PySem.W.findIn K (.ref C_Turns) "many" = some (some (.ref f18)))
    (a_Bows_size_of : PySem.W.findIn K (.ref C_Bows) "size_of" = some (some (.ref f52)))
    (a_Rooms_size_of : PySem.W.findIn K (.ref C_Rooms) "size_of" = some (some (.ref f41)))
    (a_Floors_size_of : PySem.W.findIn K (.ref C_Floors) "size_of" = some (some (.ref f53)))
    (a_Turns_size_of : PySem.W.findIn K (.ref C_Turns) "size_of" = some (some (.ref f54)))
    (a_Turns_unchecked_many : PySem.W.findIn K (.ref C_Turns) "unchecked_many" = some (some (.ref f17)))
    (a_Floors_unchecked_many : PySem.W.findIn K (.ref C_Floors) "unchecked_many" = some (some (.ref f19)))
    (a_Rooms_unchecked_many : PySem.W.findIn K (.ref C_Rooms) "unchecked_many" = some (some (.ref f21)))
    (a_Bows_unchecked_many : PySem.W.findIn K (.ref C_Bows) "unchecked_many" = some (some (.ref f23)))
    (a_Turns_unchecked_thing : PySem.W.findIn K (.ref C_Turns) "unchecked_thing" = some (some (.ref f32)))
    (a_Turns_thing_by_parts : PySem.W.findIn K (.ref C_Turns) "thing_by_parts" = some (some (.ref f30)))
    (a_Turns_bare : PySem.W.findIn K (.ref C_Turns) "bare" = some (some (.ref f27)))
    (a_Turns_joined : PySem.W.findIn K (.ref C_Turns) "joined" = some (some (.ref f29)))
    (a_Floors_unchecked_thing : PySem.W.findIn K (.ref C_Floors) "unchecked_thing" = some (some (.ref f38)))
    (a_Floors_thing_by_parts : PySem.W.findIn K (.ref C_Floors) "thing_by_parts" = some (some (.ref f37)))
    (a_Floors_bare : PySem.W.findIn K (.ref C_Floors) "bare" = some (some (.ref f34)))
    (a_Floors_joined : PySem.W.findIn K (.ref C_Floors) "joined" = some (some (.ref f36)))
    (a_Rooms_unchecked_thing : PySem.W.findIn K (.ref C_Rooms) "unchecked_thing" = some (some (.ref f44)))
    (a_Rooms_thing_by_parts : PySem.W.findIn K (.ref C_Rooms) "thing_by_parts" = some (some (.ref f43)))
    (a_Rooms_bare : PySem.W.findIn K (.ref C_Rooms) "bare" = some (some (.ref f40)))
    (a_Rooms_joined : PySem.W.findIn K (.ref C_Rooms) "joined" = some (some (.ref f42)))
    (a_Bows_unchecked_thing : PySem.W.findIn K (.ref C_Bows) "unchecked_thing" = some (some (.ref f49)))
    (a_Bows_thing_by_parts : PySem.W.findIn K (.ref C_Bows) "thing_by_parts" = some (some (.ref f48)))
    (a_Bows_bare : PySem.W.findIn K (.ref C_Bows) "bare" = some (some (.ref f46)))
    (a_Bows_joined : PySem.W.findIn K (.ref C_Bows) "joined" = some (some (.ref f47)))
    (ai_Bows : PySem.W.findIn K (.ref C_Bows) "__init__" = some (some (.ref f3)))
    (ai_Rooms : PySem.W.findIn K (.ref C_Rooms) "__init__" = some (some (.ref f6)))
    (ai_Floors : PySem.W.findIn K (.ref C_Floors) "__init__" = some (some (.ref f9)))
    (ai_Turns : PySem.W.findIn K (.ref C_Turns) "__init__" = some (some (.ref f12)))
    (ch_SplitFamily___init___Bows : PySem.W.findCls K (.ref C_SplitFamily) (.type "type") "__init__" = some (.val (.ref f2)))
    (cg_SplitFamily___init___Bows : PySem.W.specialIn K (.ref C_SplitFamily) "__getattribute__" = some (some (.builtin "type.__getattribute__")))
    (cr_SplitFamily___init___Bows : PySem.W.readsIn K C_SplitFamily (.type "type") = true)
    (ch_Family___init___Bows : PySem.W.findCls K (.ref C_Family) (.type "type") "__init__" = some (.val (.ref f1)))
    (cg_Family___init___Bows : PySem.W.specialIn K (.ref C_Family) "__getattribute__" = some (some (.builtin "type.__getattribute__")))
    (cr_Family___init___Bows : PySem.W.readsIn K C_Family (.type "type") = true)
    (ch_SplitFamily___init___Rooms : PySem.W.findCls K (.ref C_SplitFamily) (.type "type") "__init__" = some (.val (.ref f5)))
    (cg_SplitFamily___init___Rooms : PySem.W.specialIn K (.ref C_SplitFamily) "__getattribute__" = some (some (.builtin "type.__getattribute__")))
    (cr_SplitFamily___init___Rooms : PySem.W.readsIn K C_SplitFamily (.type "type") = true)
    (ch_Family___init___Rooms : PySem.W.findCls K (.ref C_Family) (.type "type") "__init__" = some (.val (.ref f4)))
    (cg_Family___init___Rooms : PySem.W.specialIn K (.ref C_Family) "__getattribute__" = some (some (.builtin "type.__getattribute__")))
    (cr_Family___init___Rooms : PySem.W.readsIn K C_Family (.type "type") = true)
    (ch_SplitFamily___init___Floors : PySem.W.findCls K (.ref C_SplitFamily) (.type "type") "__init__" = some (.val (.ref f8)))
    (cg_SplitFamily___init___Floors : PySem.W.specialIn K (.ref C_SplitFamily) "__getattribute__" = some (some (.builtin "type.__getattribute__")))
    (cr_SplitFamily___init___Floors : PySem.W.readsIn K C_SplitFamily (.type "type") = true)
    (ch_Family___init___Floors : PySem.W.findCls K (.ref C_Family) (.type "type") "__init__" = some (.val (.ref f7)))
    (cg_Family___init___Floors : PySem.W.specialIn K (.ref C_Family) "__getattribute__" = some (some (.builtin "type.__getattribute__")))
    (cr_Family___init___Floors : PySem.W.readsIn K C_Family (.type "type") = true)
    (ch_SplitFamily___init___Turns : PySem.W.findCls K (.ref C_SplitFamily) (.type "type") "__init__" = some (.val (.ref f11)))
    (cg_SplitFamily___init___Turns : PySem.W.specialIn K (.ref C_SplitFamily) "__getattribute__" = some (some (.builtin "type.__getattribute__")))
    (cr_SplitFamily___init___Turns : PySem.W.readsIn K C_SplitFamily (.type "type") = true)
    (ch_Family___init___Turns : PySem.W.findCls K (.ref C_Family) (.type "type") "__init__" = some (.val (.ref f10)))
    (cg_Family___init___Turns : PySem.W.specialIn K (.ref C_Family) "__getattribute__" = some (some (.builtin "type.__getattribute__")))
    (cr_Family___init___Turns : PySem.W.readsIn K C_Family (.type "type") = true)
    (l1 : K.lookup f1 = some ⟨oc1, od1, .func (PySem.W.fnOf "__init__" "Family.__init__" (defArgs s_Bows__Family___init__) (defBody s_Bows__Family___init__) (defScope s_Bows__Family___init__) .none kV1 dc1 pm1 an1 cd1 ct1), sl1⟩)
    (c1 : PySem.W.codeIn K cd1 "Family.__init__" = true)
    (k1 : PySem.W.keepIn K (.ref f1) = true)
    (i1 : PySem.W.isFn K (.ref f1) = true)
    (l2 : K.lookup f2 = some ⟨oc2, od2, .func (PySem.W.fnOf "__init__" "SplitFamily.__init__" (defArgs s_Bows__SplitFamily___init__) (defBody s_Bows__SplitFamily___init__) (defScope s_Bows__SplitFamily___init__) .none kV2 dc2 pm2 an2 cd2 ct2), sl2⟩)
    (c2 : PySem.W.codeIn K cd2 "SplitFamily.__init__" = true)
    (k2 : PySem.W.keepIn K (.ref f2) = true)
    (i2 : PySem.W.isFn K (.ref f2) = true)
    (l3 : K.lookup f3 = some ⟨oc3, od3, .func (PySem.W.fnOf "__init__" "Bows.__init__" (defArgs s_Bows____init__) (defBody s_Bows____init__) (defScope s_Bows____init__) .none kV3 dc3 pm3 an3 cd3 ct3), sl3⟩)
    (c3 : PySem.W.codeIn K cd3 "Bows.__init__" = true)
    (k3 : PySem.W.keepIn K (.ref f3) = true)
    (i3 : PySem.W.isFn K (.ref f3) = true)
    (l4 : K.lookup f4 = some ⟨oc4, od4, .func (PySem.W.fnOf "__init__" "Family.__init__" (defArgs s_Rooms__Family___init__) (defBody s_Rooms__Family___init__) (defScope s_Rooms__Family___init__) .none kV4 dc4 pm4 an4 cd4 ct4), sl4⟩)
    (c4 : PySem.W.codeIn K cd4 "Family.__init__" = true)
    (k4 : PySem.W.keepIn K (.ref f4) = true)
    (i4 : PySem.W.isFn K (.ref f4) = true)
    (l5 : K.lookup f5 = some ⟨oc5, od5, .func (PySem.W.fnOf "__init__" "SplitFamily.__init__" (defArgs s_Rooms__SplitFamily___init__) (defBody s_Rooms__SplitFamily___init__) (defScope s_Rooms__SplitFamily___init__) .none kV5 dc5 pm5 an5 cd5 ct5), sl5⟩)
    (c5 : PySem.W.codeIn K cd5 "SplitFamily.__init__" = true)
    (k5 : PySem.W.keepIn K (.ref f5) = true)
    (i5 : PySem.W.isFn K (.ref f5) = true)
    (l6 : K.lookup f6 = some ⟨oc6, od6, .func (PySem.W.fnOf "__init__" "Rooms.__init__" (defArgs s_Rooms____init__) (defBody s_Rooms____init__) (defScope s_Rooms____init__) .none kV6 dc6 pm6 an6 cd6 ct6), sl6⟩)
    (c6 : PySem.W.codeIn K cd6 "Rooms.__init__" = true)
    (k6 : PySem.W.keepIn K (.ref f6) = true)
    (i6 : PySem.W.isFn K (.ref f6) = true)
    (l7 : K.lookup f7 = some ⟨oc7, od7, .func (PySem.W.fnOf "__init__" "Family.__init__" (defArgs s_Floors__Family___init__) (defBody s_Floors__Family___init__) (defScope s_Floors__Family___init__) .none kV7 dc7 pm7 an7 cd7 ct7), sl7⟩)
    (c7 : PySem.W.codeIn K cd7 "Family.__init__" = true)
    (k7 : PySem.W.keepIn K (.ref f7) = true)
    (i7 : PySem.W.isFn K (.ref f7) = true)
    (l8 : K.lookup f8 = some ⟨oc8, od8, .func (PySem.W.fnOf "__init__" "SplitFamily.__init__" (defArgs s_Floors__SplitFamily___init__) (defBody s_Floors__SplitFamily___init__) (defScope s_Floors__SplitFamily___init__) .none kV8 dc8 pm8 an8 cd8 ct8), sl8⟩)
    (c8 : PySem.W.codeIn K cd8 "SplitFamily.__init__" = true)
    (k8 : PySem.W.keepIn K (.ref f8) = true)
    (i8 : PySem.W.isFn K (.ref f8) = true)
    (l9 : K.lookup f9 = some ⟨oc9, od9, .func (PySem.W.fnOf "__init__" "Floors.__init__" (defArgs s_Floors____init__) (defBody s_Floors____init__) (defScope s_Floors____init__) .none kV9 dc9 pm9 an9 cd9 ct9), sl9⟩)
    (c9 : PySem.W.codeIn K cd9 "Floors.__init__" = true)
    (k9 : PySem.W.keepIn K (.ref f9) = true)
    (i9 : PySem.W.isFn K (.ref f9) = true)
    (l10 : K.lookup f10 = some ⟨oc10, od10, .func (PySem.W.fnOf "__init__" "Family.__init__" (defArgs s_Turns__Family___init__) (defBody s_Turns__Family___init__) (defScope s_Turns__Family___init__) .none kV10 dc10 pm10 an10 cd10 ct10), sl10⟩)
    (c10 : PySem.W.codeIn K cd10 "Family.__init__" = true)
    (k10 : PySem.W.keepIn K (.ref f10) = true)
    (i10 : PySem.W.isFn K (.ref f10) = true)
    (l11 : K.lookup f11 = some ⟨oc11, od11, .func (PySem.W.fnOf "__init__" "SplitFamily.__init__" (defArgs s_Turns__SplitFamily___init__) (defBody s_Turns__SplitFamily___init__) (defScope s_Turns__SplitFamily___init__) .none kV11 dc11 pm11 an11 cd11 ct11), sl11⟩)
    (c11 : PySem.W.codeIn K cd11 "SplitFamily.__init__" = true)
    (k11 : PySem.W.keepIn K (.ref f11) = true)
    (i11 : PySem.W.isFn K (.ref f11) = true)
    (l12 : K.lookup f12 = some ⟨oc12, od12, .func (PySem.W.fnOf "__init__" "Turns.__init__" (defArgs s_Turns____init__) (defBody s_Turns____init__) (defScope s_Turns____init__) .none kV12 dc12 pm12 an12 cd12 ct12), sl12⟩)
    (c12 : PySem.W.codeIn K cd12 "Turns.__init__" = true)
    (k12 : PySem.W.keepIn K (.ref f12) = true)
    (i12 : PySem.W.isFn K (.ref f12) = true)
    (a13 : PySem.W.nsIn K mainGlobals "_law_kin" = some (some (.ref f13)))
    (l13 : K.lookup f13 = some ⟨oc13, od13, .func (PySem.W.fnOf "_law_kin" "_law_kin" (defArgs s__law_kin) (defBody s__law_kin) (defScope s__law_kin) .none kV13 dc13 pm13 an13 cd13 ct13), sl13⟩)
    (c13 : PySem.W.codeIn K cd13 "_law_kin" = true)
    (k13 : PySem.W.keepIn K (.ref f13) = true)
    (a14 : PySem.W.nsIn K mainGlobals "_law_cell_at" = some (some (.ref f14)))
    (l14 : K.lookup f14 = some ⟨oc14, od14, .func (PySem.W.fnOf "_law_cell_at" "_law_cell_at" (defArgs s__law_cell_at) (defBody s__law_cell_at) (defScope s__law_cell_at) .none kV14 dc14 pm14 an14 cd14 ct14), sl14⟩)
    (c14 : PySem.W.codeIn K cd14 "_law_cell_at" = true)
    (k14 : PySem.W.keepIn K (.ref f14) = true)
    (a15 : PySem.W.nsIn K mainGlobals "_law_counts" = some (some (.ref f15)))
    (l15 : K.lookup f15 = some ⟨oc15, od15, .func (PySem.W.fnOf "_law_counts" "_law_counts" (defArgs s__law_counts) (defBody s__law_counts) (defScope s__law_counts) .none kV15 dc15 pm15 an15 cd15 ct15), sl15⟩)
    (c15 : PySem.W.codeIn K cd15 "_law_counts" = true)
    (k15 : PySem.W.keepIn K (.ref f15) = true)
    (a16 : PySem.W.nsIn K mainGlobals "by_rule" = some (some (.ref f16)))
    (l16 : K.lookup f16 = some ⟨oc16, od16, .func (PySem.W.fnOf "by_rule" "by_rule" (defArgs s_by_rule) (defBody s_by_rule) (defScope s_by_rule) .none kV16 dc16 pm16 an16 cd16 ct16), sl16⟩)
    (c16 : PySem.W.codeIn K cd16 "by_rule" = true)
    (k16 : PySem.W.keepIn K (.ref f16) = true)
    (l17 : K.lookup f17 = some ⟨oc17, od17, .func (PySem.W.fnOf "unchecked_many" "SplitFamily.unchecked_many" (defArgs s_Turns__SplitFamily_unchecked_many) (defBody s_Turns__SplitFamily_unchecked_many) (defScope s_Turns__SplitFamily_unchecked_many) .none kV17 dc17 pm17 an17 cd17 ct17), sl17⟩)
    (c17 : PySem.W.codeIn K cd17 "SplitFamily.unchecked_many" = true)
    (k17 : PySem.W.keepIn K (.ref f17) = true)
    (i17 : PySem.W.isFn K (.ref f17) = true)
    (l18 : K.lookup f18 = some ⟨oc18, od18, .func (PySem.W.fnOf "many" "Family.many" (defArgs s_Turns__Family_many) (defBody s_Turns__Family_many) (defScope s_Turns__Family_many) .none kV18 dc18 pm18 an18 cd18 ct18), sl18⟩)
    (c18 : PySem.W.codeIn K cd18 "Family.many" = true)
    (k18 : PySem.W.keepIn K (.ref f18) = true)
    (i18 : PySem.W.isFn K (.ref f18) = true)
    (l19 : K.lookup f19 = some ⟨oc19, od19, .func (PySem.W.fnOf "unchecked_many" "SplitFamily.unchecked_many" (defArgs s_Floors__SplitFamily_unchecked_many) (defBody s_Floors__SplitFamily_unchecked_many) (defScope s_Floors__SplitFamily_unchecked_many) .none kV19 dc19 pm19 an19 cd19 ct19), sl19⟩)
    (c19 : PySem.W.codeIn K cd19 "SplitFamily.unchecked_many" = true)
    (k19 : PySem.W.keepIn K (.ref f19) = true)
    (i19 : PySem.W.isFn K (.ref f19) = true)
    (l20 : K.lookup f20 = some ⟨oc20, od20, .func (PySem.W.fnOf "many" "Family.many" (defArgs s_Floors__Family_many) (defBody s_Floors__Family_many) (defScope s_Floors__Family_many) .none kV20 dc20 pm20 an20 cd20 ct20), sl20⟩)
    (c20 : PySem.W.codeIn K cd20 "Family.many" = true)
    (k20 : PySem.W.keepIn K (.ref f20) = true)
    (i20 : PySem.W.isFn K (.ref f20) = true)
    (l21 : K.lookup f21 = some ⟨oc21, od21, .func (PySem.W.fnOf "unchecked_many" "SplitFamily.unchecked_many" (defArgs s_Rooms__SplitFamily_unchecked_many) (defBody s_Rooms__SplitFamily_unchecked_many) (defScope s_Rooms__SplitFamily_unchecked_many) .none kV21 dc21 pm21 an21 cd21 ct21), sl21⟩)
    (c21 : PySem.W.codeIn K cd21 "SplitFamily.unchecked_many" = true)
    (k21 : PySem.W.keepIn K (.ref f21) = true)
    (i21 : PySem.W.isFn K (.ref f21) = true)
    (l22 : K.lookup f22 = some ⟨oc22, od22, .func (PySem.W.fnOf "many" "Family.many" (defArgs s_Rooms__Family_many) (defBody s_Rooms__Family_many) (defScope s_Rooms__Family_many) .none kV22 dc22 pm22 an22 cd22 ct22), sl22⟩)
    (c22 : PySem.W.codeIn K cd22 "Family.many" = true)
    (k22 : PySem.W.keepIn K (.ref f22) = true)
    (i22 : PySem.W.isFn K (.ref f22) = true)
    (l23 : K.lookup f23 = some ⟨oc23, od23, .func (PySem.W.fnOf "unchecked_many" "SplitFamily.unchecked_many" (defArgs s_Bows__SplitFamily_unchecked_many) (defBody s_Bows__SplitFamily_unchecked_many) (defScope s_Bows__SplitFamily_unchecked_many) .none kV23 dc23 pm23 an23 cd23 ct23), sl23⟩)
    (c23 : PySem.W.codeIn K cd23 "SplitFamily.unchecked_many" = true)
    (k23 : PySem.W.keepIn K (.ref f23) = true)
    (i23 : PySem.W.isFn K (.ref f23) = true)
    (l24 : K.lookup f24 = some ⟨oc24, od24, .func (PySem.W.fnOf "many" "Family.many" (defArgs s_Bows__Family_many) (defBody s_Bows__Family_many) (defScope s_Bows__Family_many) .none kV24 dc24 pm24 an24 cd24 ct24), sl24⟩)
    (c24 : PySem.W.codeIn K cd24 "Family.many" = true)
    (k24 : PySem.W.keepIn K (.ref f24) = true)
    (i24 : PySem.W.isFn K (.ref f24) = true)
    (a25 : PySem.W.nsIn K mainGlobals "_law_classes" = some (some (.ref f25)))
    (l25 : K.lookup f25 = some ⟨oc25, od25, .func (PySem.W.fnOf "_law_classes" "_law_classes" (defArgs s__law_classes) (defBody s__law_classes) (defScope s__law_classes) .none kV25 dc25 pm25 an25 cd25 ct25), sl25⟩)
    (c25 : PySem.W.codeIn K cd25 "_law_classes" = true)
    (k25 : PySem.W.keepIn K (.ref f25) = true)
    (a26 : PySem.W.nsIn K mainGlobals "_law_many_refused" = some (some (.ref f26)))
    (l26 : K.lookup f26 = some ⟨oc26, od26, .func (PySem.W.fnOf "_law_many_refused" "_law_many_refused" (defArgs s__law_many_refused) (defBody s__law_many_refused) (defScope s__law_many_refused) .none kV26 dc26 pm26 an26 cd26 ct26), sl26⟩)
    (c26 : PySem.W.codeIn K cd26 "_law_many_refused" = true)
    (k26 : PySem.W.keepIn K (.ref f26) = true)
    (l27 : K.lookup f27 = some ⟨oc27, od27, .func (PySem.W.fnOf "bare" "Turns.bare" (defArgs s_Turns__bare) (defBody s_Turns__bare) (defScope s_Turns__bare) .none kV27 dc27 pm27 an27 cd27 ct27), sl27⟩)
    (c27 : PySem.W.codeIn K cd27 "Turns.bare" = true)
    (k27 : PySem.W.keepIn K (.ref f27) = true)
    (i27 : PySem.W.isFn K (.ref f27) = true)
    (a28 : PySem.W.nsIn K mainGlobals "raised_by" = some (some (.ref f28)))
    (l28 : K.lookup f28 = some ⟨oc28, od28, .func (PySem.W.fnOf "raised_by" "raised_by" (defArgs s_raised_by) (defBody s_raised_by) (defScope s_raised_by) .none kV28 dc28 pm28 an28 cd28 ct28), sl28⟩)
    (c28 : PySem.W.codeIn K cd28 "raised_by" = true)
    (k28 : PySem.W.keepIn K (.ref f28) = true)
    (l29 : K.lookup f29 = some ⟨oc29, od29, .func (PySem.W.fnOf "joined" "Turns.joined" (defArgs s_Turns__joined) (defBody s_Turns__joined) (defScope s_Turns__joined) .none kV29 dc29 pm29 an29 cd29 ct29), sl29⟩)
    (c29 : PySem.W.codeIn K cd29 "Turns.joined" = true)
    (k29 : PySem.W.keepIn K (.ref f29) = true)
    (i29 : PySem.W.isFn K (.ref f29) = true)
    (l30 : K.lookup f30 = some ⟨oc30, od30, .func (PySem.W.fnOf "thing_by_parts" "SplitFamily.thing_by_parts" (defArgs s_Turns__SplitFamily_thing_by_parts) (defBody s_Turns__SplitFamily_thing_by_parts) (defScope s_Turns__SplitFamily_thing_by_parts) .none kV30 dc30 pm30 an30 cd30 ct30), sl30⟩)
    (c30 : PySem.W.codeIn K cd30 "SplitFamily.thing_by_parts" = true)
    (k30 : PySem.W.keepIn K (.ref f30) = true)
    (i30 : PySem.W.isFn K (.ref f30) = true)
    (a31 : PySem.W.nsIn K mainGlobals "shares" = some (some (.ref f31)))
    (l31 : K.lookup f31 = some ⟨oc31, od31, .func (PySem.W.fnOf "shares" "shares" (defArgs s_shares) (defBody s_shares) (defScope s_shares) .none kV31 dc31 pm31 an31 cd31 ct31), sl31⟩)
    (c31 : PySem.W.codeIn K cd31 "shares" = true)
    (k31 : PySem.W.keepIn K (.ref f31) = true)
    (l32 : K.lookup f32 = some ⟨oc32, od32, .func (PySem.W.fnOf "unchecked_thing" "SplitFamily.unchecked_thing" (defArgs s_Turns__SplitFamily_unchecked_thing) (defBody s_Turns__SplitFamily_unchecked_thing) (defScope s_Turns__SplitFamily_unchecked_thing) .none kV32 dc32 pm32 an32 cd32 ct32), sl32⟩)
    (c32 : PySem.W.codeIn K cd32 "SplitFamily.unchecked_thing" = true)
    (k32 : PySem.W.keepIn K (.ref f32) = true)
    (i32 : PySem.W.isFn K (.ref f32) = true)
    (l33 : K.lookup f33 = some ⟨oc33, od33, .func (PySem.W.fnOf "thing_of" "Family.thing_of" (defArgs s_Turns__Family_thing_of) (defBody s_Turns__Family_thing_of) (defScope s_Turns__Family_thing_of) .none kV33 dc33 pm33 an33 cd33 ct33), sl33⟩)
    (c33 : PySem.W.codeIn K cd33 "Family.thing_of" = true)
    (k33 : PySem.W.keepIn K (.ref f33) = true)
    (i33 : PySem.W.isFn K (.ref f33) = true)
    (l34 : K.lookup f34 = some ⟨oc34, od34, .func (PySem.W.fnOf "bare" "Floors.bare" (defArgs s_Floors__bare) (defBody s_Floors__bare) (defScope s_Floors__bare) .none kV34 dc34 pm34 an34 cd34 ct34), sl34⟩)
    (c34 : PySem.W.codeIn K cd34 "Floors.bare" = true)
    (k34 : PySem.W.keepIn K (.ref f34) = true)
    (i34 : PySem.W.isFn K (.ref f34) = true)
    (a35 : PySem.W.nsIn K mainGlobals "pairs_raised_by" = some (some (.ref f35)))
    (l35 : K.lookup f35 = some ⟨oc35, od35, .func (PySem.W.fnOf "pairs_raised_by" "pairs_raised_by" (defArgs s_pairs_raised_by) (defBody s_pairs_raised_by) (defScope s_pairs_raised_by) .none kV35 dc35 pm35 an35 cd35 ct35), sl35⟩)
    (c35 : PySem.W.codeIn K cd35 "pairs_raised_by" = true)
    (k35 : PySem.W.keepIn K (.ref f35) = true)
    (l36 : K.lookup f36 = some ⟨oc36, od36, .func (PySem.W.fnOf "joined" "Floors.joined" (defArgs s_Floors__joined) (defBody s_Floors__joined) (defScope s_Floors__joined) .none kV36 dc36 pm36 an36 cd36 ct36), sl36⟩)
    (c36 : PySem.W.codeIn K cd36 "Floors.joined" = true)
    (k36 : PySem.W.keepIn K (.ref f36) = true)
    (i36 : PySem.W.isFn K (.ref f36) = true)
    (l37 : K.lookup f37 = some ⟨oc37, od37, .func (PySem.W.fnOf "thing_by_parts" "SplitFamily.thing_by_parts" (defArgs s_Floors__SplitFamily_thing_by_parts) (defBody s_Floors__SplitFamily_thing_by_parts) (defScope s_Floors__SplitFamily_thing_by_parts) .none kV37 dc37 pm37 an37 cd37 ct37), sl37⟩)
    (c37 : PySem.W.codeIn K cd37 "SplitFamily.thing_by_parts" = true)
    (k37 : PySem.W.keepIn K (.ref f37) = true)
    (i37 : PySem.W.isFn K (.ref f37) = true)
    (l38 : K.lookup f38 = some ⟨oc38, od38, .func (PySem.W.fnOf "unchecked_thing" "SplitFamily.unchecked_thing" (defArgs s_Floors__SplitFamily_unchecked_thing) (defBody s_Floors__SplitFamily_unchecked_thing) (defScope s_Floors__SplitFamily_unchecked_thing) .none kV38 dc38 pm38 an38 cd38 ct38), sl38⟩)
    (c38 : PySem.W.codeIn K cd38 "SplitFamily.unchecked_thing" = true)
    (k38 : PySem.W.keepIn K (.ref f38) = true)
    (i38 : PySem.W.isFn K (.ref f38) = true)
    (l39 : K.lookup f39 = some ⟨oc39, od39, .func (PySem.W.fnOf "thing_of" "Family.thing_of" (defArgs s_Floors__Family_thing_of) (defBody s_Floors__Family_thing_of) (defScope s_Floors__Family_thing_of) .none kV39 dc39 pm39 an39 cd39 ct39), sl39⟩)
    (c39 : PySem.W.codeIn K cd39 "Family.thing_of" = true)
    (k39 : PySem.W.keepIn K (.ref f39) = true)
    (i39 : PySem.W.isFn K (.ref f39) = true)
    (l40 : K.lookup f40 = some ⟨oc40, od40, .func (PySem.W.fnOf "bare" "Rooms.bare" (defArgs s_Rooms__bare) (defBody s_Rooms__bare) (defScope s_Rooms__bare) .none kV40 dc40 pm40 an40 cd40 ct40), sl40⟩)
    (c40 : PySem.W.codeIn K cd40 "Rooms.bare" = true)
    (k40 : PySem.W.keepIn K (.ref f40) = true)
    (i40 : PySem.W.isFn K (.ref f40) = true)
    (l41 : K.lookup f41 = some ⟨oc41, od41, .func (PySem.W.fnOf "size_of" "Rooms.size_of" (defArgs s_Rooms__size_of) (defBody s_Rooms__size_of) (defScope s_Rooms__size_of) .none kV41 dc41 pm41 an41 cd41 ct41), sl41⟩)
    (c41 : PySem.W.codeIn K cd41 "Rooms.size_of" = true)
    (k41 : PySem.W.keepIn K (.ref f41) = true)
    (i41 : PySem.W.isFn K (.ref f41) = true)
    (l42 : K.lookup f42 = some ⟨oc42, od42, .func (PySem.W.fnOf "joined" "Rooms.joined" (defArgs s_Rooms__joined) (defBody s_Rooms__joined) (defScope s_Rooms__joined) .none kV42 dc42 pm42 an42 cd42 ct42), sl42⟩)
    (c42 : PySem.W.codeIn K cd42 "Rooms.joined" = true)
    (k42 : PySem.W.keepIn K (.ref f42) = true)
    (i42 : PySem.W.isFn K (.ref f42) = true)
    (l43 : K.lookup f43 = some ⟨oc43, od43, .func (PySem.W.fnOf "thing_by_parts" "SplitFamily.thing_by_parts" (defArgs s_Rooms__SplitFamily_thing_by_parts) (defBody s_Rooms__SplitFamily_thing_by_parts) (defScope s_Rooms__SplitFamily_thing_by_parts) .none kV43 dc43 pm43 an43 cd43 ct43), sl43⟩)
    (c43 : PySem.W.codeIn K cd43 "SplitFamily.thing_by_parts" = true)
    (k43 : PySem.W.keepIn K (.ref f43) = true)
    (i43 : PySem.W.isFn K (.ref f43) = true)
    (l44 : K.lookup f44 = some ⟨oc44, od44, .func (PySem.W.fnOf "unchecked_thing" "SplitFamily.unchecked_thing" (defArgs s_Rooms__SplitFamily_unchecked_thing) (defBody s_Rooms__SplitFamily_unchecked_thing) (defScope s_Rooms__SplitFamily_unchecked_thing) .none kV44 dc44 pm44 an44 cd44 ct44), sl44⟩)
    (c44 : PySem.W.codeIn K cd44 "SplitFamily.unchecked_thing" = true)
    (k44 : PySem.W.keepIn K (.ref f44) = true)
    (i44 : PySem.W.isFn K (.ref f44) = true)
    (l45 : K.lookup f45 = some ⟨oc45, od45, .func (PySem.W.fnOf "thing_of" "Family.thing_of" (defArgs s_Rooms__Family_thing_of) (defBody s_Rooms__Family_thing_of) (defScope s_Rooms__Family_thing_of) .none kV45 dc45 pm45 an45 cd45 ct45), sl45⟩)
    (c45 : PySem.W.codeIn K cd45 "Family.thing_of" = true)
    (k45 : PySem.W.keepIn K (.ref f45) = true)
    (i45 : PySem.W.isFn K (.ref f45) = true)
    (l46 : K.lookup f46 = some ⟨oc46, od46, .func (PySem.W.fnOf "bare" "Bows.bare" (defArgs s_Bows__bare) (defBody s_Bows__bare) (defScope s_Bows__bare) .none kV46 dc46 pm46 an46 cd46 ct46), sl46⟩)
    (c46 : PySem.W.codeIn K cd46 "Bows.bare" = true)
    (k46 : PySem.W.keepIn K (.ref f46) = true)
    (i46 : PySem.W.isFn K (.ref f46) = true)
    (l47 : K.lookup f47 = some ⟨oc47, od47, .func (PySem.W.fnOf "joined" "Bows.joined" (defArgs s_Bows__joined) (defBody s_Bows__joined) (defScope s_Bows__joined) .none kV47 dc47 pm47 an47 cd47 ct47), sl47⟩)
    (c47 : PySem.W.codeIn K cd47 "Bows.joined" = true)
    (k47 : PySem.W.keepIn K (.ref f47) = true)
    (i47 : PySem.W.isFn K (.ref f47) = true)
    (l48 : K.lookup f48 = some ⟨oc48, od48, .func (PySem.W.fnOf "thing_by_parts" "SplitFamily.thing_by_parts" (defArgs s_Bows__SplitFamily_thing_by_parts) (defBody s_Bows__SplitFamily_thing_by_parts) (defScope s_Bows__SplitFamily_thing_by_parts) .none kV48 dc48 pm48 an48 cd48 ct48), sl48⟩)
    (c48 : PySem.W.codeIn K cd48 "SplitFamily.thing_by_parts" = true)
    (k48 : PySem.W.keepIn K (.ref f48) = true)
    (i48 : PySem.W.isFn K (.ref f48) = true)
    (l49 : K.lookup f49 = some ⟨oc49, od49, .func (PySem.W.fnOf "unchecked_thing" "SplitFamily.unchecked_thing" (defArgs s_Bows__SplitFamily_unchecked_thing) (defBody s_Bows__SplitFamily_unchecked_thing) (defScope s_Bows__SplitFamily_unchecked_thing) .none kV49 dc49 pm49 an49 cd49 ct49), sl49⟩)
    (c49 : PySem.W.codeIn K cd49 "SplitFamily.unchecked_thing" = true)
    (k49 : PySem.W.keepIn K (.ref f49) = true)
    (i49 : PySem.W.isFn K (.ref f49) = true)
    (l50 : K.lookup f50 = some ⟨oc50, od50, .func (PySem.W.fnOf "thing_of" "Family.thing_of" (defArgs s_Bows__Family_thing_of) (defBody s_Bows__Family_thing_of) (defScope s_Bows__Family_thing_of) .none kV50 dc50 pm50 an50 cd50 ct50), sl50⟩)
    (c50 : PySem.W.codeIn K cd50 "Family.thing_of" = true)
    (k50 : PySem.W.keepIn K (.ref f50) = true)
    (i50 : PySem.W.isFn K (.ref f50) = true)
    (a51 : PySem.W.nsIn K mainGlobals "_law_thing_refused" = some (some (.ref f51)))
    (l51 : K.lookup f51 = some ⟨oc51, od51, .func (PySem.W.fnOf "_law_thing_refused" "_law_thing_refused" (defArgs s__law_thing_refused) (defBody s__law_thing_refused) (defScope s__law_thing_refused) .none kV51 dc51 pm51 an51 cd51 ct51), sl51⟩)
    (c51 : PySem.W.codeIn K cd51 "_law_thing_refused" = true)
    (k51 : PySem.W.keepIn K (.ref f51) = true)
    (l52 : K.lookup f52 = some ⟨oc52, od52, .func (PySem.W.fnOf "size_of" "Bows.size_of" (defArgs s_Bows__size_of) (defBody s_Bows__size_of) (defScope s_Bows__size_of) .none kV52 dc52 pm52 an52 cd52 ct52), sl52⟩)
    (c52 : PySem.W.codeIn K cd52 "Bows.size_of" = true)
    (k52 : PySem.W.keepIn K (.ref f52) = true)
    (i52 : PySem.W.isFn K (.ref f52) = true)
    (l53 : K.lookup f53 = some ⟨oc53, od53, .func (PySem.W.fnOf "size_of" "Floors.size_of" (defArgs s_Floors__size_of) (defBody s_Floors__size_of) (defScope s_Floors__size_of) .none kV53 dc53 pm53 an53 cd53 ct53), sl53⟩)
    (c53 : PySem.W.codeIn K cd53 "Floors.size_of" = true)
    (k53 : PySem.W.keepIn K (.ref f53) = true)
    (i53 : PySem.W.isFn K (.ref f53) = true)
    (l54 : K.lookup f54 = some ⟨oc54, od54, .func (PySem.W.fnOf "size_of" "Turns.size_of" (defArgs s_Turns__size_of) (defBody s_Turns__size_of) (defScope s_Turns__size_of) .none kV54 dc54 pm54 an54 cd54 ct54), sl54⟩)
    (c54 : PySem.W.codeIn K cd54 "Turns.size_of" = true)
    (k54 : PySem.W.keepIn K (.ref f54) = true)
    (i54 : PySem.W.isFn K (.ref f54) = true)
    (a55 : PySem.W.nsIn K mainGlobals "law" = some (some (.ref f55)))
    (l55 : K.lookup f55 = some ⟨oc55, od55, .func (PySem.W.fnOf "law" "law" (defArgs s_law) (defBody s_law) (defScope s_law) .none kV55 dc55 pm55 an55 cd55 ct55), sl55⟩)
    (c55 : PySem.W.codeIn K cd55 "law" = true)
    (k55 : PySem.W.keepIn K (.ref f55) = true)
    (pg_Bows : PySem.W.plainGet K C_Bows Str.empty = true)
    (hd_Bows : PySem.W.hasDictIn K C_Bows = true)
    (po_Bows : PySem.W.plainOver K C_Bows = true)
    (sa_Bows : PySem.W.findIn K (.ref C_Bows) "__setattr__" = some (some (.builtin "object.__setattr__")))
    (pg_Rooms : PySem.W.plainGet K C_Rooms Str.empty = true)
    (hd_Rooms : PySem.W.hasDictIn K C_Rooms = true)
    (po_Rooms : PySem.W.plainOver K C_Rooms = true)
    (sa_Rooms : PySem.W.findIn K (.ref C_Rooms) "__setattr__" = some (some (.builtin "object.__setattr__")))
    (pg_Floors : PySem.W.plainGet K C_Floors Str.empty = true)
    (hd_Floors : PySem.W.hasDictIn K C_Floors = true)
    (po_Floors : PySem.W.plainOver K C_Floors = true)
    (sa_Floors : PySem.W.findIn K (.ref C_Floors) "__setattr__" = some (some (.builtin "object.__setattr__")))
    (pg_Turns : PySem.W.plainGet K C_Turns Str.empty = true)
    (hd_Turns : PySem.W.hasDictIn K C_Turns = true)
    (po_Turns : PySem.W.plainOver K C_Turns = true)
    (sa_Turns : PySem.W.findIn K (.ref C_Turns) "__setattr__" = some (some (.builtin "object.__setattr__")))
    (mk_Bows : PySem.W.makesIn K C_Bows = true)
    (kc_Bows : PySem.W.keepIn K (.ref C_Bows) = true)
    (mk_Rooms : PySem.W.makesIn K C_Rooms = true)
    (kc_Rooms : PySem.W.keepIn K (.ref C_Rooms) = true)
    (mk_Floors : PySem.W.makesIn K C_Floors = true)
    (kc_Floors : PySem.W.keepIn K (.ref C_Floors) = true)
    (mk_Turns : PySem.W.makesIn K C_Turns = true)
    (kc_Turns : PySem.W.keepIn K (.ref C_Turns) = true)
    (na_Bows_word : PySem.W.findIn K (.ref C_Bows) "word" = some none)
    (na_Bows_least : PySem.W.findIn K (.ref C_Bows) "least" = some none)
    (na_Rooms_word : PySem.W.findIn K (.ref C_Rooms) "word" = some none)
    (na_Rooms_least : PySem.W.findIn K (.ref C_Rooms) "least" = some none)
    (na_Floors_word : PySem.W.findIn K (.ref C_Floors) "word" = some none)
    (na_Floors_least : PySem.W.findIn K (.ref C_Floors) "least" = some none)
    (na_Turns_word : PySem.W.findIn K (.ref C_Turns) "word" = some none)
    (na_Turns_least : PySem.W.findIn K (.ref C_Turns) "least" = some none)
    (ia_Bows : PySem.W.findIn K (.ref C_Bows) "__class__" = some (some (.builtin "object.__class__")))
    (im_Bows : PySem.W.mroIn K C_Bows (.type "object") = some true)
    (ia_Rooms : PySem.W.findIn K (.ref C_Rooms) "__class__" = some (some (.builtin "object.__class__")))
    (im_Rooms : PySem.W.mroIn K C_Rooms (.type "object") = some true)
    (ia_Floors : PySem.W.findIn K (.ref C_Floors) "__class__" = some (some (.builtin "object.__class__")))
    (im_Floors : PySem.W.mroIn K C_Floors (.type "object") = some true)
    (ia_Turns : PySem.W.findIn K (.ref C_Turns) "__class__" = some (some (.builtin "object.__class__")))
    (im_Turns : PySem.W.mroIn K C_Turns (.type "object") = some true)
    (in_get : PySem.W.specialIn K (.builtin "object.__class__") "__get__" = some (some (.builtin "getset_descriptor.__get__")))
    (in_tk : PySem.W.takesIn K (.builtin "object.__class__") = some true)
    (ki_Bows_Family : PySem.W.kitOne K (.ref C_Bows) (.ref C_Family) = some true)
    (ki_Rooms_Family : PySem.W.kitOne K (.ref C_Rooms) (.ref C_Family) = some true)
    (ki_Floors_Family : PySem.W.kitOne K (.ref C_Floors) (.ref C_Family) = some true)
    (ki_Turns_Family : PySem.W.kitOne K (.ref C_Turns) (.ref C_Family) = some true)
    (z_len : PySem.W.nsIn K mainGlobals "len" = some none)
    (z_range : PySem.W.nsIn K mainGlobals "range" = some none)
    (z_isinstance : PySem.W.nsIn K mainGlobals "isinstance" = some none)
    (z_ValueError : PySem.W.nsIn K mainGlobals "ValueError" = some none)
    (z_sum : PySem.W.nsIn K mainGlobals "sum" = some none)
    (z_sorted : PySem.W.nsIn K mainGlobals "sorted" = some none) {t_GREATEST_SIZE : Tok}
    (y_GREATEST_SIZE : PySem.W.nsIn K mainGlobals "GREATEST_SIZE" = some (some (Value.int 40 t_GREATEST_SIZE)))
    {c_kin : Addr} {c_size : Addr} {c_number : Addr} {c_thing : Addr} {c_family : Addr} {c_way : Addr} {c_apart : Addr} {c_mark : Addr} {c_text : Addr} {c_broken : Addr}
    (n_kin : PySem.W.nsIn K mainGlobals "KinError" = some (some (.ref c_kin)))
    (n_size : PySem.W.nsIn K mainGlobals "NoSize" = some (some (.ref c_size)))
    (n_number : PySem.W.nsIn K mainGlobals "NoNumber" = some (some (.ref c_number)))
    (n_thing : PySem.W.nsIn K mainGlobals "NoThing" = some (some (.ref c_thing)))
    (n_family : PySem.W.nsIn K mainGlobals "NoFamily" = some (some (.ref c_family)))
    (n_way : PySem.W.nsIn K mainGlobals "NoWay" = some (some (.ref c_way)))
    (n_apart : PySem.W.nsIn K mainGlobals "Apart" = some (some (.ref c_apart)))
    (n_mark : PySem.W.nsIn K mainGlobals "NoMark" = some (some (.ref c_mark)))
    (n_text : PySem.W.nsIn K mainGlobals "NoText" = some (some (.ref c_text)))
    (n_broken : PySem.W.nsIn K mainGlobals "Broken" = some (some (.ref c_broken)))
    (t_err : errTab K ⟨c_kin, c_size, c_number, c_thing, c_family, c_way, c_apart, c_mark, c_text, c_broken⟩ = true) :
    ∃ fd : FuncData, (∀ (s : Shared) (v : Value), BindsTo s fd ⟨[v], []⟩ [("_law_script", v)]) ∧ ∀ base : Heap, K.In base → base.Ns mainGlobals mg → FnOk l.prog w K mg base CX0 48 fa fd ["_law_script"] (spL K) := by
  have e := hfa.symm.trans (PySem.W.mg_of X G a55)
  cases e
  have EO : ErrOk K mg ⟨c_kin, c_size, c_number, c_thing, c_family, c_way, c_apart, c_mark, c_text, c_broken⟩ := errOk t_err (PySem.W.mg_of X G n_kin) (PySem.W.mg_of X G n_size) (PySem.W.mg_of X G n_number) (PySem.W.mg_of X G n_thing) (PySem.W.mg_of X G n_family) (PySem.W.mg_of X G n_way) (PySem.W.mg_of X G n_apart) (PySem.W.mg_of X G n_mark) (PySem.W.mg_of X G n_text) (PySem.W.mg_of X G n_broken)
  have CA : ClOk K mg ⟨C_Bows, C_Family, C_Rooms, C_Floors, C_Turns, C_SplitFamily, f1, f2, f3, f4, f5, f6, f7, f8, f9, f10, f11, f12, f17, f18, f19, f20, f21, f22, f23, f24, f27, f29, f30, f32, f33, f34, f36, f37, f38, f39, f40, f41, f42, f43, f44, f45, f46, f47, f48, f49, f50, f52, f53, f54⟩ := ⟨PySem.W.mg_of X G nc_Family, PySem.W.mg_of X G nc_Bows, PySem.W.mg_of X G nc_Rooms, PySem.W.mg_of X G nc_Floors, PySem.W.mg_of X G nc_Turns, PySem.W.mg_of X G nc_SplitFamily, ⟨pg_Bows, hd_Bows, po_Bows, sa_Bows⟩, ⟨pg_Rooms, hd_Rooms, po_Rooms, sa_Rooms⟩, ⟨pg_Floors, hd_Floors, po_Floors, sa_Floors⟩, ⟨pg_Turns, hd_Turns, po_Turns, sa_Turns⟩, ⟨a_Bows_thing_of, i50, k50⟩, ⟨a_Rooms_thing_of, i45, k45⟩, ⟨a_Floors_thing_of, i39, k39⟩, ⟨a_Turns_thing_of, i33, k33⟩, ⟨a_Bows_many, i24, k24⟩, ⟨a_Rooms_many, i22, k22⟩, ⟨a_Floors_many, i20, k20⟩, ⟨a_Turns_many, i18, k18⟩, ⟨a_Bows_size_of, i52, k52⟩, ⟨a_Rooms_size_of, i41, k41⟩, ⟨a_Floors_size_of, i53, k53⟩, ⟨a_Turns_size_of, i54, k54⟩, ⟨a_Turns_unchecked_many, i17, k17⟩, ⟨a_Floors_unchecked_many, i19, k19⟩, ⟨a_Rooms_unchecked_many, i21, k21⟩, ⟨a_Bows_unchecked_many, i23, k23⟩, ⟨a_Turns_unchecked_thing, i32, k32⟩, ⟨a_Turns_thing_by_parts, i30, k30⟩, ⟨a_Turns_bare, i27, k27⟩, ⟨a_Turns_joined, i29, k29⟩, ⟨a_Floors_unchecked_thing, i38, k38⟩, ⟨a_Floors_thing_by_parts, i37, k37⟩, ⟨a_Floors_bare, i34, k34⟩, ⟨a_Floors_joined, i36, k36⟩, ⟨a_Rooms_unchecked_thing, i44, k44⟩, ⟨a_Rooms_thing_by_parts, i43, k43⟩, ⟨a_Rooms_bare, i40, k40⟩, ⟨a_Rooms_joined, i42, k42⟩, ⟨a_Bows_unchecked_thing, i49, k49⟩, ⟨a_Bows_thing_by_parts, i48, k48⟩, ⟨a_Bows_bare, i46, k46⟩, ⟨a_Bows_joined, i47, k47⟩, ⟨mk_Bows, ai_Bows, i3, kc_Bows⟩, ⟨mk_Rooms, ai_Rooms, i6, kc_Rooms⟩, ⟨mk_Floors, ai_Floors, i9, kc_Floors⟩, ⟨mk_Turns, ai_Turns, i12, kc_Turns⟩, ⟨cg_SplitFamily___init___Bows, cr_SplitFamily___init___Bows, ch_SplitFamily___init___Bows, k2⟩, ⟨cg_Family___init___Bows, cr_Family___init___Bows, ch_Family___init___Bows, k1⟩, ⟨cg_SplitFamily___init___Rooms, cr_SplitFamily___init___Rooms, ch_SplitFamily___init___Rooms, k5⟩, ⟨cg_Family___init___Rooms, cr_Family___init___Rooms, ch_Family___init___Rooms, k4⟩, ⟨cg_SplitFamily___init___Floors, cr_SplitFamily___init___Floors, ch_SplitFamily___init___Floors, k8⟩, ⟨cg_Family___init___Floors, cr_Family___init___Floors, ch_Family___init___Floors, k7⟩, ⟨cg_SplitFamily___init___Turns, cr_SplitFamily___init___Turns, ch_SplitFamily___init___Turns, k11⟩, ⟨cg_Family___init___Turns, cr_Family___init___Turns, ch_Family___init___Turns, k10⟩, na_Bows_word, na_Bows_least, na_Rooms_word, na_Rooms_least, na_Floors_word, na_Floors_least, na_Turns_word, na_Turns_least, ⟨⟨pg_Bows, hd_Bows, po_Bows, sa_Bows⟩, ia_Bows, in_get, in_tk, im_Bows⟩, ⟨⟨pg_Rooms, hd_Rooms, po_Rooms, sa_Rooms⟩, ia_Rooms, in_get, in_tk, im_Rooms⟩, ⟨⟨pg_Floors, hd_Floors, po_Floors, sa_Floors⟩, ia_Floors, in_get, in_tk, im_Floors⟩, ⟨⟨pg_Turns, hd_Turns, po_Turns, sa_Turns⟩, ia_Turns, in_get, in_tk, im_Turns⟩, ki_Bows_Family, ki_Rooms_Family, ki_Floors_Family, ki_Turns_Family⟩
  have F1 := fun_mk (st := s_Bows__Family___init__) l1 c1 k1
  have b1 := F1.binds (ps := ["self", "word", "least"]) fun _ _ _ _ _ _ => lenAll3 (fun _ _ _ => rfl)
  have F2 := fun_mk (st := s_Bows__SplitFamily___init__) l2 c2 k2
  have b2 := F2.binds (ps := ["self", "word"]) fun _ _ _ _ _ _ => lenAll2 (fun _ _ => rfl)
  have F3 := fun_mk (st := s_Bows____init__) l3 c3 k3
  have b3 := F3.binds (ps := ["self"]) fun _ _ _ _ _ _ => lenAll1 (fun _ => rfl)
  have F4 := fun_mk (st := s_Rooms__Family___init__) l4 c4 k4
  have b4 := F4.binds (ps := ["self", "word", "least"]) fun _ _ _ _ _ _ => lenAll3 (fun _ _ _ => rfl)
  have F5 := fun_mk (st := s_Rooms__SplitFamily___init__) l5 c5 k5
  have b5 := F5.binds (ps := ["self", "word"]) fun _ _ _ _ _ _ => lenAll2 (fun _ _ => rfl)
  have F6 := fun_mk (st := s_Rooms____init__) l6 c6 k6
  have b6 := F6.binds (ps := ["self"]) fun _ _ _ _ _ _ => lenAll1 (fun _ => rfl)
  have F7 := fun_mk (st := s_Floors__Family___init__) l7 c7 k7
  have b7 := F7.binds (ps := ["self", "word", "least"]) fun _ _ _ _ _ _ => lenAll3 (fun _ _ _ => rfl)
  have F8 := fun_mk (st := s_Floors__SplitFamily___init__) l8 c8 k8
  have b8 := F8.binds (ps := ["self", "word"]) fun _ _ _ _ _ _ => lenAll2 (fun _ _ => rfl)
  have F9 := fun_mk (st := s_Floors____init__) l9 c9 k9
  have b9 := F9.binds (ps := ["self"]) fun _ _ _ _ _ _ => lenAll1 (fun _ => rfl)
  have F10 := fun_mk (st := s_Turns__Family___init__) l10 c10 k10
  have b10 := F10.binds (ps := ["self", "word", "least"]) fun _ _ _ _ _ _ => lenAll3 (fun _ _ _ => rfl)
  have F11 := fun_mk (st := s_Turns__SplitFamily___init__) l11 c11 k11
  have b11 := F11.binds (ps := ["self", "word"]) fun _ _ _ _ _ _ => lenAll2 (fun _ _ => rfl)
  have F12 := fun_mk (st := s_Turns____init__) l12 c12 k12
  have b12 := F12.binds (ps := ["self"]) fun _ _ _ _ _ _ => lenAll1 (fun _ => rfl)
  have F13 := fun_mk (st := s__law_kin) l13 c13 k13
  have b13 := F13.binds (ps := ["_law_word"]) fun _ _ _ _ _ _ => lenAll1 (fun _ => rfl)
  have F14 := fun_mk (st := s__law_cell_at) l14 c14 k14
  have b14 := F14.binds (ps := ["_law_script", "_law_k"]) fun _ _ _ _ _ _ => lenAll2 (fun _ _ => rfl)
  have F15 := fun_mk (st := s__law_counts) l15 c15 k15
  have b15 := F15.binds (ps := ["_law_most"]) fun _ _ _ _ _ _ => lenAll1 (fun _ => rfl)
  have F16 := fun_mk (st := s_by_rule) l16 c16 k16
  have b16 := F16.binds (ps := ["size"]) fun _ _ _ _ _ _ => lenAll1 (fun _ => rfl)
  have F17 := fun_mk (st := s_Turns__SplitFamily_unchecked_many) l17 c17 k17
  have b17 := F17.binds (ps := ["self", "size"]) fun _ _ _ _ _ _ => lenAll2 (fun _ _ => rfl)
  have F18 := fun_mk (st := s_Turns__Family_many) l18 c18 k18
  have b18 := F18.binds (ps := ["self", "size"]) fun _ _ _ _ _ _ => lenAll2 (fun _ _ => rfl)
  have F19 := fun_mk (st := s_Floors__SplitFamily_unchecked_many) l19 c19 k19
  have b19 := F19.binds (ps := ["self", "size"]) fun _ _ _ _ _ _ => lenAll2 (fun _ _ => rfl)
  have F20 := fun_mk (st := s_Floors__Family_many) l20 c20 k20
  have b20 := F20.binds (ps := ["self", "size"]) fun _ _ _ _ _ _ => lenAll2 (fun _ _ => rfl)
  have F21 := fun_mk (st := s_Rooms__SplitFamily_unchecked_many) l21 c21 k21
  have b21 := F21.binds (ps := ["self", "size"]) fun _ _ _ _ _ _ => lenAll2 (fun _ _ => rfl)
  have F22 := fun_mk (st := s_Rooms__Family_many) l22 c22 k22
  have b22 := F22.binds (ps := ["self", "size"]) fun _ _ _ _ _ _ => lenAll2 (fun _ _ => rfl)
  have F23 := fun_mk (st := s_Bows__SplitFamily_unchecked_many) l23 c23 k23
  have b23 := F23.binds (ps := ["self", "size"]) fun _ _ _ _ _ _ => lenAll2 (fun _ _ => rfl)
  have F24 := fun_mk (st := s_Bows__Family_many) l24 c24 k24
  have b24 := F24.binds (ps := ["self", "size"]) fun _ _ _ _ _ _ => lenAll2 (fun _ _ => rfl)
  have F25 := fun_mk (st := s__law_classes) l25 c25 k25
  have b25 := F25.binds (ps := ["_law_error"]) fun _ _ _ _ _ _ => lenAll1 (fun _ => rfl)
  have F26 := fun_mk (st := s__law_many_refused) l26 c26 k26
  have b26 := F26.binds (ps := ["_law_kin_here", "_law_size"]) fun _ _ _ _ _ _ => lenAll2 (fun _ _ => rfl)
  have F27 := fun_mk (st := s_Turns__bare) l27 c27 k27
  have b27 := F27.binds (ps := ["self"]) fun _ _ _ _ _ _ => lenAll1 (fun _ => rfl)
  have F28 := fun_mk (st := s_raised_by) l28 c28 k28
  have b28 := F28.binds (ps := ["numbers", "step"]) fun _ _ _ _ _ _ => lenAll2 (fun _ _ => rfl)
  have F29 := fun_mk (st := s_Turns__joined) l29 c29 k29
  have b29 := F29.binds (ps := ["self", "left", "right"]) fun _ _ _ _ _ _ => lenAll3 (fun _ _ _ => rfl)
  have F30 := fun_mk (st := s_Turns__SplitFamily_thing_by_parts) l30 c30 k30
  have b30 := F30.binds (ps := ["self", "counts", "size", "number"]) fun _ _ _ _ _ _ => lenAll4 (fun _ _ _ _ => rfl)
  have F31 := fun_mk (st := s_shares) l31 c31 k31
  have b31 := F31.binds (ps := ["most"]) fun _ _ _ _ _ _ => lenAll1 (fun _ => rfl)
  have F32 := fun_mk (st := s_Turns__SplitFamily_unchecked_thing) l32 c32 k32
  have b32 := F32.binds (ps := ["self", "size", "number"]) fun _ _ _ _ _ _ => lenAll3 (fun _ _ _ => rfl)
  have F33 := fun_mk (st := s_Turns__Family_thing_of) l33 c33 k33
  have b33 := F33.binds (ps := ["self", "size", "number"]) fun _ _ _ _ _ _ => lenAll3 (fun _ _ _ => rfl)
  have F34 := fun_mk (st := s_Floors__bare) l34 c34 k34
  have b34 := F34.binds (ps := ["self"]) fun _ _ _ _ _ _ => lenAll1 (fun _ => rfl)
  have F35 := fun_mk (st := s_pairs_raised_by) l35 c35 k35
  have b35 := F35.binds (ps := ["pairs", "step"]) fun _ _ _ _ _ _ => lenAll2 (fun _ _ => rfl)
  have F36 := fun_mk (st := s_Floors__joined) l36 c36 k36
  have b36 := F36.binds (ps := ["self", "left", "right"]) fun _ _ _ _ _ _ => lenAll3 (fun _ _ _ => rfl)
  have F37 := fun_mk (st := s_Floors__SplitFamily_thing_by_parts) l37 c37 k37
  have b37 := F37.binds (ps := ["self", "counts", "size", "number"]) fun _ _ _ _ _ _ => lenAll4 (fun _ _ _ _ => rfl)
  have F38 := fun_mk (st := s_Floors__SplitFamily_unchecked_thing) l38 c38 k38
  have b38 := F38.binds (ps := ["self", "size", "number"]) fun _ _ _ _ _ _ => lenAll3 (fun _ _ _ => rfl)
  have F39 := fun_mk (st := s_Floors__Family_thing_of) l39 c39 k39
  have b39 := F39.binds (ps := ["self", "size", "number"]) fun _ _ _ _ _ _ => lenAll3 (fun _ _ _ => rfl)
  have F40 := fun_mk (st := s_Rooms__bare) l40 c40 k40
  have b40 := F40.binds (ps := ["self"]) fun _ _ _ _ _ _ => lenAll1 (fun _ => rfl)
  have F41 := fun_mk (st := s_Rooms__size_of) l41 c41 k41
  have b41 := F41.binds (ps := ["self", "thing"]) fun _ _ _ _ _ _ => lenAll2 (fun _ _ => rfl)
  have F42 := fun_mk (st := s_Rooms__joined) l42 c42 k42
  have b42 := F42.binds (ps := ["self", "left", "right"]) fun _ _ _ _ _ _ => lenAll3 (fun _ _ _ => rfl)
  have F43 := fun_mk (st := s_Rooms__SplitFamily_thing_by_parts) l43 c43 k43
  have b43 := F43.binds (ps := ["self", "counts", "size", "number"]) fun _ _ _ _ _ _ => lenAll4 (fun _ _ _ _ => rfl)
  have F44 := fun_mk (st := s_Rooms__SplitFamily_unchecked_thing) l44 c44 k44
  have b44 := F44.binds (ps := ["self", "size", "number"]) fun _ _ _ _ _ _ => lenAll3 (fun _ _ _ => rfl)
  have F45 := fun_mk (st := s_Rooms__Family_thing_of) l45 c45 k45
  have b45 := F45.binds (ps := ["self", "size", "number"]) fun _ _ _ _ _ _ => lenAll3 (fun _ _ _ => rfl)
  have F46 := fun_mk (st := s_Bows__bare) l46 c46 k46
  have b46 := F46.binds (ps := ["self"]) fun _ _ _ _ _ _ => lenAll1 (fun _ => rfl)
  have F47 := fun_mk (st := s_Bows__joined) l47 c47 k47
  have b47 := F47.binds (ps := ["self", "left", "right"]) fun _ _ _ _ _ _ => lenAll3 (fun _ _ _ => rfl)
  have F48 := fun_mk (st := s_Bows__SplitFamily_thing_by_parts) l48 c48 k48
  have b48 := F48.binds (ps := ["self", "counts", "size", "number"]) fun _ _ _ _ _ _ => lenAll4 (fun _ _ _ _ => rfl)
  have F49 := fun_mk (st := s_Bows__SplitFamily_unchecked_thing) l49 c49 k49
  have b49 := F49.binds (ps := ["self", "size", "number"]) fun _ _ _ _ _ _ => lenAll3 (fun _ _ _ => rfl)
  have F50 := fun_mk (st := s_Bows__Family_thing_of) l50 c50 k50
  have b50 := F50.binds (ps := ["self", "size", "number"]) fun _ _ _ _ _ _ => lenAll3 (fun _ _ _ => rfl)
  have F51 := fun_mk (st := s__law_thing_refused) l51 c51 k51
  have b51 := F51.binds (ps := ["_law_kin_here", "_law_size", "_law_number"]) fun _ _ _ _ _ _ => lenAll3 (fun _ _ _ => rfl)
  have F52 := fun_mk (st := s_Bows__size_of) l52 c52 k52
  have b52 := F52.binds (ps := ["self", "thing"]) fun _ _ _ _ _ _ => lenAll2 (fun _ _ => rfl)
  have F53 := fun_mk (st := s_Floors__size_of) l53 c53 k53
  have b53 := F53.binds (ps := ["self", "thing"]) fun _ _ _ _ _ _ => lenAll2 (fun _ _ => rfl)
  have F54 := fun_mk (st := s_Turns__size_of) l54 c54 k54
  have b54 := F54.binds (ps := ["self", "thing"]) fun _ _ _ _ _ _ => lenAll2 (fun _ _ => rfl)
  have F55 := fun_mk (st := s_law) l55 c55 k55
  have m_len := PySem.W.mg_none_of X G z_len
  have m_range := PySem.W.mg_none_of X G z_range
  have m_isinstance := PySem.W.mg_none_of X G z_isinstance
  have m_ValueError := PySem.W.mg_none_of X G z_ValueError
  have m_sum := PySem.W.mg_none_of X G z_sum
  have m_sorted := PySem.W.mg_none_of X G z_sorted
  have g_GREATEST_SIZE : mg "GREATEST_SIZE" = some (Value.int 40 t_GREATEST_SIZE) ∧ RelV (.int 40) (Value.int 40 t_GREATEST_SIZE) := ⟨PySem.W.mg_of X G y_GREATEST_SIZE, ⟨_, rfl⟩⟩
  refine ⟨PySem.W.fnOf "law" "law" (defArgs s_law) (defBody s_law) (defScope s_law) .none kV55 dc55 pm55 an55 cd55 ct55, fun s v => .of_eq rfl, fun base _ _ => ?_⟩
  have d_Bows__Family___init__ : MDef l.prog w K mg base ["self", "word", "least"] 1 (sp_Bows__Family___init__ K ⟨C_Bows, C_Family, C_Rooms, C_Floors, C_Turns, C_SplitFamily, f1, f2, f3, f4, f5, f6, f7, f8, f9, f10, f11, f12, f17, f18, f19, f20, f21, f22, f23, f24, f27, f29, f30, f32, f33, f34, f36, f37, f38, f39, f40, f41, f42, f43, f44, f45, f46, f47, f48, f49, f50, f52, f53, f54⟩) f1 _ := ⟨(ok_Bows__Family___init__ (P := l.prog) (w := w) (base := base) EO CA F1).up, b1⟩
  have d_Bows__SplitFamily___init__ : MDef l.prog w K mg base ["self", "word"] 3 (sp_Bows__SplitFamily___init__ K ⟨C_Bows, C_Family, C_Rooms, C_Floors, C_Turns, C_SplitFamily, f1, f2, f3, f4, f5, f6, f7, f8, f9, f10, f11, f12, f17, f18, f19, f20, f21, f22, f23, f24, f27, f29, f30, f32, f33, f34, f36, f37, f38, f39, f40, f41, f42, f43, f44, f45, f46, f47, f48, f49, f50, f52, f53, f54⟩) f2 _ := ⟨(ok_Bows__SplitFamily___init__ (P := l.prog) (w := w) (base := base) EO CA F2 d_Bows__Family___init__).up, b2⟩
  have d_Bows____init__ : MDef l.prog w K mg base ["self"] 5 (sp_Bows____init__ K ⟨C_Bows, C_Family, C_Rooms, C_Floors, C_Turns, C_SplitFamily, f1, f2, f3, f4, f5, f6, f7, f8, f9, f10, f11, f12, f17, f18, f19, f20, f21, f22, f23, f24, f27, f29, f30, f32, f33, f34, f36, f37, f38, f39, f40, f41, f42, f43, f44, f45, f46, f47, f48, f49, f50, f52, f53, f54⟩) f3 _ := ⟨(ok_Bows____init__ (P := l.prog) (w := w) (base := base) EO CA F3 d_Bows__SplitFamily___init__).up, b3⟩
  have d_Rooms__Family___init__ : MDef l.prog w K mg base ["self", "word", "least"] 1 (sp_Rooms__Family___init__ K ⟨C_Bows, C_Family, C_Rooms, C_Floors, C_Turns, C_SplitFamily, f1, f2, f3, f4, f5, f6, f7, f8, f9, f10, f11, f12, f17, f18, f19, f20, f21, f22, f23, f24, f27, f29, f30, f32, f33, f34, f36, f37, f38, f39, f40, f41, f42, f43, f44, f45, f46, f47, f48, f49, f50, f52, f53, f54⟩) f4 _ := ⟨(ok_Rooms__Family___init__ (P := l.prog) (w := w) (base := base) EO CA F4).up, b4⟩
  have d_Rooms__SplitFamily___init__ : MDef l.prog w K mg base ["self", "word"] 3 (sp_Rooms__SplitFamily___init__ K ⟨C_Bows, C_Family, C_Rooms, C_Floors, C_Turns, C_SplitFamily, f1, f2, f3, f4, f5, f6, f7, f8, f9, f10, f11, f12, f17, f18, f19, f20, f21, f22, f23, f24, f27, f29, f30, f32, f33, f34, f36, f37, f38, f39, f40, f41, f42, f43, f44, f45, f46, f47, f48, f49, f50, f52, f53, f54⟩) f5 _ := ⟨(ok_Rooms__SplitFamily___init__ (P := l.prog) (w := w) (base := base) EO CA F5 d_Rooms__Family___init__).up, b5⟩
  have d_Rooms____init__ : MDef l.prog w K mg base ["self"] 5 (sp_Rooms____init__ K ⟨C_Bows, C_Family, C_Rooms, C_Floors, C_Turns, C_SplitFamily, f1, f2, f3, f4, f5, f6, f7, f8, f9, f10, f11, f12, f17, f18, f19, f20, f21, f22, f23, f24, f27, f29, f30, f32, f33, f34, f36, f37, f38, f39, f40, f41, f42, f43, f44, f45, f46, f47, f48, f49, f50, f52, f53, f54⟩) f6 _ := ⟨(ok_Rooms____init__ (P := l.prog) (w := w) (base := base) EO CA F6 d_Rooms__SplitFamily___init__).up, b6⟩
  have d_Floors__Family___init__ : MDef l.prog w K mg base ["self", "word", "least"] 1 (sp_Floors__Family___init__ K ⟨C_Bows, C_Family, C_Rooms, C_Floors, C_Turns, C_SplitFamily, f1, f2, f3, f4, f5, f6, f7, f8, f9, f10, f11, f12, f17, f18, f19, f20, f21, f22, f23, f24, f27, f29, f30, f32, f33, f34, f36, f37, f38, f39, f40, f41, f42, f43, f44, f45, f46, f47, f48, f49, f50, f52, f53, f54⟩) f7 _ := ⟨(ok_Floors__Family___init__ (P := l.prog) (w := w) (base := base) EO CA F7).up, b7⟩
  have d_Floors__SplitFamily___init__ : MDef l.prog w K mg base ["self", "word"] 3 (sp_Floors__SplitFamily___init__ K ⟨C_Bows, C_Family, C_Rooms, C_Floors, C_Turns, C_SplitFamily, f1, f2, f3, f4, f5, f6, f7, f8, f9, f10, f11, f12, f17, f18, f19, f20, f21, f22, f23, f24, f27, f29, f30, f32, f33, f34, f36, f37, f38, f39, f40, f41, f42, f43, f44, f45, f46, f47, f48, f49, f50, f52, f53, f54⟩) f8 _ := ⟨(ok_Floors__SplitFamily___init__ (P := l.prog) (w := w) (base := base) EO CA F8 d_Floors__Family___init__).up, b8⟩
  have d_Floors____init__ : MDef l.prog w K mg base ["self"] 5 (sp_Floors____init__ K ⟨C_Bows, C_Family, C_Rooms, C_Floors, C_Turns, C_SplitFamily, f1, f2, f3, f4, f5, f6, f7, f8, f9, f10, f11, f12, f17, f18, f19, f20, f21, f22, f23, f24, f27, f29, f30, f32, f33, f34, f36, f37, f38, f39, f40, f41, f42, f43, f44, f45, f46, f47, f48, f49, f50, f52, f53, f54⟩) f9 _ := ⟨(ok_Floors____init__ (P := l.prog) (w := w) (base := base) EO CA F9 d_Floors__SplitFamily___init__).up, b9⟩
  have d_Turns__Family___init__ : MDef l.prog w K mg base ["self", "word", "least"] 1 (sp_Turns__Family___init__ K ⟨C_Bows, C_Family, C_Rooms, C_Floors, C_Turns, C_SplitFamily, f1, f2, f3, f4, f5, f6, f7, f8, f9, f10, f11, f12, f17, f18, f19, f20, f21, f22, f23, f24, f27, f29, f30, f32, f33, f34, f36, f37, f38, f39, f40, f41, f42, f43, f44, f45, f46, f47, f48, f49, f50, f52, f53, f54⟩) f10 _ := ⟨(ok_Turns__Family___init__ (P := l.prog) (w := w) (base := base) EO CA F10).up, b10⟩
  have d_Turns__SplitFamily___init__ : MDef l.prog w K mg base ["self", "word"] 3 (sp_Turns__SplitFamily___init__ K ⟨C_Bows, C_Family, C_Rooms, C_Floors, C_Turns, C_SplitFamily, f1, f2, f3, f4, f5, f6, f7, f8, f9, f10, f11, f12, f17, f18, f19, f20, f21, f22, f23, f24, f27, f29, f30, f32, f33, f34, f36, f37, f38, f39, f40, f41, f42, f43, f44, f45, f46, f47, f48, f49, f50, f52, f53, f54⟩) f11 _ := ⟨(ok_Turns__SplitFamily___init__ (P := l.prog) (w := w) (base := base) EO CA F11 d_Turns__Family___init__).up, b11⟩
  have d_Turns____init__ : MDef l.prog w K mg base ["self"] 5 (sp_Turns____init__ K ⟨C_Bows, C_Family, C_Rooms, C_Floors, C_Turns, C_SplitFamily, f1, f2, f3, f4, f5, f6, f7, f8, f9, f10, f11, f12, f17, f18, f19, f20, f21, f22, f23, f24, f27, f29, f30, f32, f33, f34, f36, f37, f38, f39, f40, f41, f42, f43, f44, f45, f46, f47, f48, f49, f50, f52, f53, f54⟩) f12 _ := ⟨(ok_Turns____init__ (P := l.prog) (w := w) (base := base) EO CA F12 d_Turns__SplitFamily___init__).up, b12⟩
  have d__law_kin : Def l.prog w K mg base "_law_kin" ["_law_word"] 7 (sp__law_kin K ⟨C_Bows, C_Family, C_Rooms, C_Floors, C_Turns, C_SplitFamily, f1, f2, f3, f4, f5, f6, f7, f8, f9, f10, f11, f12, f17, f18, f19, f20, f21, f22, f23, f24, f27, f29, f30, f32, f33, f34, f36, f37, f38, f39, f40, f41, f42, f43, f44, f45, f46, f47, f48, f49, f50, f52, f53, f54⟩) f13 _ := ⟨(ok__law_kin (P := l.prog) (w := w) (base := base) EO CA F13 d_Bows____init__ d_Rooms____init__ d_Floors____init__ d_Turns____init__).up, b13, k13, PySem.W.mg_of X G a13⟩
  have d__law_cell_at : Def l.prog w K mg base "_law_cell_at" ["_law_script", "_law_k"] 1 (sp__law_cell_at K ⟨C_Bows, C_Family, C_Rooms, C_Floors, C_Turns, C_SplitFamily, f1, f2, f3, f4, f5, f6, f7, f8, f9, f10, f11, f12, f17, f18, f19, f20, f21, f22, f23, f24, f27, f29, f30, f32, f33, f34, f36, f37, f38, f39, f40, f41, f42, f43, f44, f45, f46, f47, f48, f49, f50, f52, f53, f54⟩) f14 _ := ⟨(ok__law_cell_at (P := l.prog) (w := w) (base := base) EO CA F14 m_len).up, b14, k14, PySem.W.mg_of X G a14⟩
  have d__law_counts : Def l.prog w K mg base "_law_counts" ["_law_most"] 1 (sp__law_counts K ⟨C_Bows, C_Family, C_Rooms, C_Floors, C_Turns, C_SplitFamily, f1, f2, f3, f4, f5, f6, f7, f8, f9, f10, f11, f12, f17, f18, f19, f20, f21, f22, f23, f24, f27, f29, f30, f32, f33, f34, f36, f37, f38, f39, f40, f41, f42, f43, f44, f45, f46, f47, f48, f49, f50, f52, f53, f54⟩) f15 _ := ⟨(ok__law_counts (P := l.prog) (w := w) (base := base) EO CA F15 m_range).up, b15, k15, PySem.W.mg_of X G a15⟩
  have d_by_rule : Def l.prog w K mg base "by_rule" ["size"] 1 (sp_by_rule K ⟨C_Bows, C_Family, C_Rooms, C_Floors, C_Turns, C_SplitFamily, f1, f2, f3, f4, f5, f6, f7, f8, f9, f10, f11, f12, f17, f18, f19, f20, f21, f22, f23, f24, f27, f29, f30, f32, f33, f34, f36, f37, f38, f39, f40, f41, f42, f43, f44, f45, f46, f47, f48, f49, f50, f52, f53, f54⟩) f16 _ := ⟨(ok_by_rule (P := l.prog) (w := w) (base := base) EO CA F16 m_range).up, b16, k16, PySem.W.mg_of X G a16⟩
  have d_Turns__SplitFamily_unchecked_many : MDef l.prog w K mg base ["self", "size"] 2 (sp_Turns__SplitFamily_unchecked_many K ⟨C_Bows, C_Family, C_Rooms, C_Floors, C_Turns, C_SplitFamily, f1, f2, f3, f4, f5, f6, f7, f8, f9, f10, f11, f12, f17, f18, f19, f20, f21, f22, f23, f24, f27, f29, f30, f32, f33, f34, f36, f37, f38, f39, f40, f41, f42, f43, f44, f45, f46, f47, f48, f49, f50, f52, f53, f54⟩) f17 _ := ⟨(ok_Turns__SplitFamily_unchecked_many (P := l.prog) (w := w) (base := base) EO CA F17 d_by_rule).up, b17⟩
  have d_Turns__Family_many : MDef l.prog w K mg base ["self", "size"] 3 (sp_Turns__Family_many K ⟨C_Bows, C_Family, C_Rooms, C_Floors, C_Turns, C_SplitFamily, f1, f2, f3, f4, f5, f6, f7, f8, f9, f10, f11, f12, f17, f18, f19, f20, f21, f22, f23, f24, f27, f29, f30, f32, f33, f34, f36, f37, f38, f39, f40, f41, f42, f43, f44, f45, f46, f47, f48, f49, f50, f52, f53, f54⟩ ⟨c_kin, c_size, c_number, c_thing, c_family, c_way, c_apart, c_mark, c_text, c_broken⟩) f18 _ := ⟨(ok_Turns__Family_many (P := l.prog) (w := w) (base := base) EO CA F18 d_Turns__SplitFamily_unchecked_many g_GREATEST_SIZE), b18⟩
  have d_Floors__SplitFamily_unchecked_many : MDef l.prog w K mg base ["self", "size"] 2 (sp_Floors__SplitFamily_unchecked_many K ⟨C_Bows, C_Family, C_Rooms, C_Floors, C_Turns, C_SplitFamily, f1, f2, f3, f4, f5, f6, f7, f8, f9, f10, f11, f12, f17, f18, f19, f20, f21, f22, f23, f24, f27, f29, f30, f32, f33, f34, f36, f37, f38, f39, f40, f41, f42, f43, f44, f45, f46, f47, f48, f49, f50, f52, f53, f54⟩) f19 _ := ⟨(ok_Floors__SplitFamily_unchecked_many (P := l.prog) (w := w) (base := base) EO CA F19 d_by_rule).up, b19⟩
  have d_Floors__Family_many : MDef l.prog w K mg base ["self", "size"] 3 (sp_Floors__Family_many K ⟨C_Bows, C_Family, C_Rooms, C_Floors, C_Turns, C_SplitFamily, f1, f2, f3, f4, f5, f6, f7, f8, f9, f10, f11, f12, f17, f18, f19, f20, f21, f22, f23, f24, f27, f29, f30, f32, f33, f34, f36, f37, f38, f39, f40, f41, f42, f43, f44, f45, f46, f47, f48, f49, f50, f52, f53, f54⟩ ⟨c_kin, c_size, c_number, c_thing, c_family, c_way, c_apart, c_mark, c_text, c_broken⟩) f20 _ := ⟨(ok_Floors__Family_many (P := l.prog) (w := w) (base := base) EO CA F20 d_Floors__SplitFamily_unchecked_many g_GREATEST_SIZE), b20⟩
  have d_Rooms__SplitFamily_unchecked_many : MDef l.prog w K mg base ["self", "size"] 2 (sp_Rooms__SplitFamily_unchecked_many K ⟨C_Bows, C_Family, C_Rooms, C_Floors, C_Turns, C_SplitFamily, f1, f2, f3, f4, f5, f6, f7, f8, f9, f10, f11, f12, f17, f18, f19, f20, f21, f22, f23, f24, f27, f29, f30, f32, f33, f34, f36, f37, f38, f39, f40, f41, f42, f43, f44, f45, f46, f47, f48, f49, f50, f52, f53, f54⟩) f21 _ := ⟨(ok_Rooms__SplitFamily_unchecked_many (P := l.prog) (w := w) (base := base) EO CA F21 d_by_rule).up, b21⟩
  have d_Rooms__Family_many : MDef l.prog w K mg base ["self", "size"] 3 (sp_Rooms__Family_many K ⟨C_Bows, C_Family, C_Rooms, C_Floors, C_Turns, C_SplitFamily, f1, f2, f3, f4, f5, f6, f7, f8, f9, f10, f11, f12, f17, f18, f19, f20, f21, f22, f23, f24, f27, f29, f30, f32, f33, f34, f36, f37, f38, f39, f40, f41, f42, f43, f44, f45, f46, f47, f48, f49, f50, f52, f53, f54⟩ ⟨c_kin, c_size, c_number, c_thing, c_family, c_way, c_apart, c_mark, c_text, c_broken⟩) f22 _ := ⟨(ok_Rooms__Family_many (P := l.prog) (w := w) (base := base) EO CA F22 d_Rooms__SplitFamily_unchecked_many g_GREATEST_SIZE), b22⟩
  have d_Bows__SplitFamily_unchecked_many : MDef l.prog w K mg base ["self", "size"] 2 (sp_Bows__SplitFamily_unchecked_many K ⟨C_Bows, C_Family, C_Rooms, C_Floors, C_Turns, C_SplitFamily, f1, f2, f3, f4, f5, f6, f7, f8, f9, f10, f11, f12, f17, f18, f19, f20, f21, f22, f23, f24, f27, f29, f30, f32, f33, f34, f36, f37, f38, f39, f40, f41, f42, f43, f44, f45, f46, f47, f48, f49, f50, f52, f53, f54⟩) f23 _ := ⟨(ok_Bows__SplitFamily_unchecked_many (P := l.prog) (w := w) (base := base) EO CA F23 d_by_rule).up, b23⟩
  have d_Bows__Family_many : MDef l.prog w K mg base ["self", "size"] 3 (sp_Bows__Family_many K ⟨C_Bows, C_Family, C_Rooms, C_Floors, C_Turns, C_SplitFamily, f1, f2, f3, f4, f5, f6, f7, f8, f9, f10, f11, f12, f17, f18, f19, f20, f21, f22, f23, f24, f27, f29, f30, f32, f33, f34, f36, f37, f38, f39, f40, f41, f42, f43, f44, f45, f46, f47, f48, f49, f50, f52, f53, f54⟩ ⟨c_kin, c_size, c_number, c_thing, c_family, c_way, c_apart, c_mark, c_text, c_broken⟩) f24 _ := ⟨(ok_Bows__Family_many (P := l.prog) (w := w) (base := base) EO CA F24 d_Bows__SplitFamily_unchecked_many g_GREATEST_SIZE), b24⟩
  have d__law_classes : Def l.prog w K mg base "_law_classes" ["_law_error"] 1 (sp__law_classes K ⟨C_Bows, C_Family, C_Rooms, C_Floors, C_Turns, C_SplitFamily, f1, f2, f3, f4, f5, f6, f7, f8, f9, f10, f11, f12, f17, f18, f19, f20, f21, f22, f23, f24, f27, f29, f30, f32, f33, f34, f36, f37, f38, f39, f40, f41, f42, f43, f44, f45, f46, f47, f48, f49, f50, f52, f53, f54⟩ ⟨c_kin, c_size, c_number, c_thing, c_family, c_way, c_apart, c_mark, c_text, c_broken⟩) f25 _ := ⟨(ok__law_classes (P := l.prog) (w := w) (base := base) EO CA F25 m_isinstance m_ValueError).up, b25, k25, PySem.W.mg_of X G a25⟩
  have d__law_many_refused : Def l.prog w K mg base "_law_many_refused" ["_law_kin_here", "_law_size"] 4 (sp__law_many_refused K ⟨C_Bows, C_Family, C_Rooms, C_Floors, C_Turns, C_SplitFamily, f1, f2, f3, f4, f5, f6, f7, f8, f9, f10, f11, f12, f17, f18, f19, f20, f21, f22, f23, f24, f27, f29, f30, f32, f33, f34, f36, f37, f38, f39, f40, f41, f42, f43, f44, f45, f46, f47, f48, f49, f50, f52, f53, f54⟩ ⟨c_kin, c_size, c_number, c_thing, c_family, c_way, c_apart, c_mark, c_text, c_broken⟩) f26 _ := ⟨(ok__law_many_refused (P := l.prog) (w := w) (base := base) EO CA F26 d_Turns__Family_many d_Floors__Family_many d_Rooms__Family_many d_Bows__Family_many d__law_classes).up, b26, k26, PySem.W.mg_of X G a26⟩
  have d_Turns__bare : MDef l.prog w K mg base ["self"] 1 (sp_Turns__bare K ⟨C_Bows, C_Family, C_Rooms, C_Floors, C_Turns, C_SplitFamily, f1, f2, f3, f4, f5, f6, f7, f8, f9, f10, f11, f12, f17, f18, f19, f20, f21, f22, f23, f24, f27, f29, f30, f32, f33, f34, f36, f37, f38, f39, f40, f41, f42, f43, f44, f45, f46, f47, f48, f49, f50, f52, f53, f54⟩) f27 _ := ⟨(ok_Turns__bare (P := l.prog) (w := w) (base := base) EO CA F27).up, b27⟩
  have d_raised_by : Def l.prog w K mg base "raised_by" ["numbers", "step"] 1 (sp_raised_by K ⟨C_Bows, C_Family, C_Rooms, C_Floors, C_Turns, C_SplitFamily, f1, f2, f3, f4, f5, f6, f7, f8, f9, f10, f11, f12, f17, f18, f19, f20, f21, f22, f23, f24, f27, f29, f30, f32, f33, f34, f36, f37, f38, f39, f40, f41, f42, f43, f44, f45, f46, f47, f48, f49, f50, f52, f53, f54⟩) f28 _ := ⟨(ok_raised_by (P := l.prog) (w := w) (base := base) EO CA F28).up, b28, k28, PySem.W.mg_of X G a28⟩
  have d_Turns__joined : MDef l.prog w K mg base ["self", "left", "right"] 2 (sp_Turns__joined K ⟨C_Bows, C_Family, C_Rooms, C_Floors, C_Turns, C_SplitFamily, f1, f2, f3, f4, f5, f6, f7, f8, f9, f10, f11, f12, f17, f18, f19, f20, f21, f22, f23, f24, f27, f29, f30, f32, f33, f34, f36, f37, f38, f39, f40, f41, f42, f43, f44, f45, f46, f47, f48, f49, f50, f52, f53, f54⟩) f29 _ := ⟨(ok_Turns__joined (P := l.prog) (w := w) (base := base) EO CA F29 d_raised_by m_len).up, b29⟩
  have r_Turns__SplitFamily_thing_by_parts : ∀ n, FnOk l.prog w K mg base (CX1 l.prog w) (2 + n + 1) f30 _ ["self", "counts", "size", "number"] (sp_Turns__SplitFamily_thing_by_parts K ⟨C_Bows, C_Family, C_Rooms, C_Floors, C_Turns, C_SplitFamily, f1, f2, f3, f4, f5, f6, f7, f8, f9, f10, f11, f12, f17, f18, f19, f20, f21, f22, f23, f24, f27, f29, f30, f32, f33, f34, f36, f37, f38, f39, f40, f41, f42, f43, f44, f45, f46, f47, f48, f49, f50, f52, f53, f54⟩ n) := rec_ok fun n q => ok_Turns__SplitFamily_thing_by_parts (P := l.prog) (w := w) (base := base) EO CA F30 d_Turns__bare d_Turns__joined n ⟨below_ok q, b30⟩
  have d_Turns__SplitFamily_thing_by_parts : MDef l.prog w K mg base ["self", "counts", "size", "number"] 44 (spA_Turns__SplitFamily_thing_by_parts K ⟨C_Bows, C_Family, C_Rooms, C_Floors, C_Turns, C_SplitFamily, f1, f2, f3, f4, f5, f6, f7, f8, f9, f10, f11, f12, f17, f18, f19, f20, f21, f22, f23, f24, f27, f29, f30, f32, f33, f34, f36, f37, f38, f39, f40, f41, f42, f43, f44, f45, f46, f47, f48, f49, f50, f52, f53, f54⟩) f30 _ := ⟨((below_ok (L := 2) (N := 41) fun m _ => r_Turns__SplitFamily_thing_by_parts m).mono (by decide)), b30⟩
  have d_shares : Def l.prog w K mg base "shares" ["most"] 1 (sp_shares K ⟨C_Bows, C_Family, C_Rooms, C_Floors, C_Turns, C_SplitFamily, f1, f2, f3, f4, f5, f6, f7, f8, f9, f10, f11, f12, f17, f18, f19, f20, f21, f22, f23, f24, f27, f29, f30, f32, f33, f34, f36, f37, f38, f39, f40, f41, f42, f43, f44, f45, f46, f47, f48, f49, f50, f52, f53, f54⟩) f31 _ := ⟨(ok_shares (P := l.prog) (w := w) (base := base) EO CA F31 m_range m_sum).up, b31, k31, PySem.W.mg_of X G a31⟩
  have d_Turns__SplitFamily_unchecked_thing : MDef l.prog w K mg base ["self", "size", "number"] 45 (sp_Turns__SplitFamily_unchecked_thing K ⟨C_Bows, C_Family, C_Rooms, C_Floors, C_Turns, C_SplitFamily, f1, f2, f3, f4, f5, f6, f7, f8, f9, f10, f11, f12, f17, f18, f19, f20, f21, f22, f23, f24, f27, f29, f30, f32, f33, f34, f36, f37, f38, f39, f40, f41, f42, f43, f44, f45, f46, f47, f48, f49, f50, f52, f53, f54⟩) f32 _ := ⟨(ok_Turns__SplitFamily_unchecked_thing (P := l.prog) (w := w) (base := base) EO CA F32 d_Turns__SplitFamily_thing_by_parts d_shares).up, b32⟩
  have d_Turns__Family_thing_of : MDef l.prog w K mg base ["self", "size", "number"] 46 (sp_Turns__Family_thing_of K ⟨C_Bows, C_Family, C_Rooms, C_Floors, C_Turns, C_SplitFamily, f1, f2, f3, f4, f5, f6, f7, f8, f9, f10, f11, f12, f17, f18, f19, f20, f21, f22, f23, f24, f27, f29, f30, f32, f33, f34, f36, f37, f38, f39, f40, f41, f42, f43, f44, f45, f46, f47, f48, f49, f50, f52, f53, f54⟩ ⟨c_kin, c_size, c_number, c_thing, c_family, c_way, c_apart, c_mark, c_text, c_broken⟩) f33 _ := ⟨(ok_Turns__Family_thing_of (P := l.prog) (w := w) (base := base) EO CA F33 d_Turns__Family_many d_Turns__SplitFamily_unchecked_thing), b33⟩
  have d_Floors__bare : MDef l.prog w K mg base ["self"] 1 (sp_Floors__bare K ⟨C_Bows, C_Family, C_Rooms, C_Floors, C_Turns, C_SplitFamily, f1, f2, f3, f4, f5, f6, f7, f8, f9, f10, f11, f12, f17, f18, f19, f20, f21, f22, f23, f24, f27, f29, f30, f32, f33, f34, f36, f37, f38, f39, f40, f41, f42, f43, f44, f45, f46, f47, f48, f49, f50, f52, f53, f54⟩) f34 _ := ⟨(ok_Floors__bare (P := l.prog) (w := w) (base := base) EO CA F34).up, b34⟩
  have d_pairs_raised_by : Def l.prog w K mg base "pairs_raised_by" ["pairs", "step"] 1 (sp_pairs_raised_by K ⟨C_Bows, C_Family, C_Rooms, C_Floors, C_Turns, C_SplitFamily, f1, f2, f3, f4, f5, f6, f7, f8, f9, f10, f11, f12, f17, f18, f19, f20, f21, f22, f23, f24, f27, f29, f30, f32, f33, f34, f36, f37, f38, f39, f40, f41, f42, f43, f44, f45, f46, f47, f48, f49, f50, f52, f53, f54⟩) f35 _ := ⟨(ok_pairs_raised_by (P := l.prog) (w := w) (base := base) EO CA F35).up, b35, k35, PySem.W.mg_of X G a35⟩
  have d_Floors__joined : MDef l.prog w K mg base ["self", "left", "right"] 2 (sp_Floors__joined K ⟨C_Bows, C_Family, C_Rooms, C_Floors, C_Turns, C_SplitFamily, f1, f2, f3, f4, f5, f6, f7, f8, f9, f10, f11, f12, f17, f18, f19, f20, f21, f22, f23, f24, f27, f29, f30, f32, f33, f34, f36, f37, f38, f39, f40, f41, f42, f43, f44, f45, f46, f47, f48, f49, f50, f52, f53, f54⟩) f36 _ := ⟨(ok_Floors__joined (P := l.prog) (w := w) (base := base) EO CA F36 d_pairs_raised_by m_sorted).up, b36⟩
  have r_Floors__SplitFamily_thing_by_parts : ∀ n, FnOk l.prog w K mg base (CX1 l.prog w) (2 + n + 1) f37 _ ["self", "counts", "size", "number"] (sp_Floors__SplitFamily_thing_by_parts K ⟨C_Bows, C_Family, C_Rooms, C_Floors, C_Turns, C_SplitFamily, f1, f2, f3, f4, f5, f6, f7, f8, f9, f10, f11, f12, f17, f18, f19, f20, f21, f22, f23, f24, f27, f29, f30, f32, f33, f34, f36, f37, f38, f39, f40, f41, f42, f43, f44, f45, f46, f47, f48, f49, f50, f52, f53, f54⟩ n) := rec_ok fun n q => ok_Floors__SplitFamily_thing_by_parts (P := l.prog) (w := w) (base := base) EO CA F37 d_Floors__bare d_Floors__joined n ⟨below_ok q, b37⟩
  have d_Floors__SplitFamily_thing_by_parts : MDef l.prog w K mg base ["self", "counts", "size", "number"] 44 (spA_Floors__SplitFamily_thing_by_parts K ⟨C_Bows, C_Family, C_Rooms, C_Floors, C_Turns, C_SplitFamily, f1, f2, f3, f4, f5, f6, f7, f8, f9, f10, f11, f12, f17, f18, f19, f20, f21, f22, f23, f24, f27, f29, f30, f32, f33, f34, f36, f37, f38, f39, f40, f41, f42, f43, f44, f45, f46, f47, f48, f49, f50, f52, f53, f54⟩) f37 _ := ⟨((below_ok (L := 2) (N := 41) fun m _ => r_Floors__SplitFamily_thing_by_parts m).mono (by decide)), b37⟩
  have d_Floors__SplitFamily_unchecked_thing : MDef l.prog w K mg base ["self", "size", "number"] 45 (sp_Floors__SplitFamily_unchecked_thing K ⟨C_Bows, C_Family, C_Rooms, C_Floors, C_Turns, C_SplitFamily, f1, f2, f3, f4, f5, f6, f7, f8, f9, f10, f11, f12, f17, f18, f19, f20, f21, f22, f23, f24, f27, f29, f30, f32, f33, f34, f36, f37, f38, f39, f40, f41, f42, f43, f44, f45, f46, f47, f48, f49, f50, f52, f53, f54⟩) f38 _ := ⟨(ok_Floors__SplitFamily_unchecked_thing (P := l.prog) (w := w) (base := base) EO CA F38 d_Floors__SplitFamily_thing_by_parts d_shares).up, b38⟩
  have d_Floors__Family_thing_of : MDef l.prog w K mg base ["self", "size", "number"] 46 (sp_Floors__Family_thing_of K ⟨C_Bows, C_Family, C_Rooms, C_Floors, C_Turns, C_SplitFamily, f1, f2, f3, f4, f5, f6, f7, f8, f9, f10, f11, f12, f17, f18, f19, f20, f21, f22, f23, f24, f27, f29, f30, f32, f33, f34, f36, f37, f38, f39, f40, f41, f42, f43, f44, f45, f46, f47, f48, f49, f50, f52, f53, f54⟩ ⟨c_kin, c_size, c_number, c_thing, c_family, c_way, c_apart, c_mark, c_text, c_broken⟩) f39 _ := ⟨(ok_Floors__Family_thing_of (P := l.prog) (w := w) (base := base) EO CA F39 d_Floors__Family_many d_Floors__SplitFamily_unchecked_thing), b39⟩
  have d_Rooms__bare : MDef l.prog w K mg base ["self"] 1 (sp_Rooms__bare K ⟨C_Bows, C_Family, C_Rooms, C_Floors, C_Turns, C_SplitFamily, f1, f2, f3, f4, f5, f6, f7, f8, f9, f10, f11, f12, f17, f18, f19, f20, f21, f22, f23, f24, f27, f29, f30, f32, f33, f34, f36, f37, f38, f39, f40, f41, f42, f43, f44, f45, f46, f47, f48, f49, f50, f52, f53, f54⟩) f40 _ := ⟨(ok_Rooms__bare (P := l.prog) (w := w) (base := base) EO CA F40).up, b40⟩
  have d_Rooms__size_of : MDef l.prog w K mg base ["self", "thing"] 1 (sp_Rooms__size_of K ⟨C_Bows, C_Family, C_Rooms, C_Floors, C_Turns, C_SplitFamily, f1, f2, f3, f4, f5, f6, f7, f8, f9, f10, f11, f12, f17, f18, f19, f20, f21, f22, f23, f24, f27, f29, f30, f32, f33, f34, f36, f37, f38, f39, f40, f41, f42, f43, f44, f45, f46, f47, f48, f49, f50, f52, f53, f54⟩) f41 _ := ⟨(ok_Rooms__size_of (P := l.prog) (w := w) (base := base) EO CA F41 m_sum m_len).up, b41⟩
  have d_Rooms__joined : MDef l.prog w K mg base ["self", "left", "right"] 2 (sp_Rooms__joined K ⟨C_Bows, C_Family, C_Rooms, C_Floors, C_Turns, C_SplitFamily, f1, f2, f3, f4, f5, f6, f7, f8, f9, f10, f11, f12, f17, f18, f19, f20, f21, f22, f23, f24, f27, f29, f30, f32, f33, f34, f36, f37, f38, f39, f40, f41, f42, f43, f44, f45, f46, f47, f48, f49, f50, f52, f53, f54⟩) f42 _ := ⟨(ok_Rooms__joined (P := l.prog) (w := w) (base := base) EO CA F42 d_Rooms__size_of d_raised_by).up, b42⟩
  have r_Rooms__SplitFamily_thing_by_parts : ∀ n, FnOk l.prog w K mg base (CX1 l.prog w) (2 + n + 1) f43 _ ["self", "counts", "size", "number"] (sp_Rooms__SplitFamily_thing_by_parts K ⟨C_Bows, C_Family, C_Rooms, C_Floors, C_Turns, C_SplitFamily, f1, f2, f3, f4, f5, f6, f7, f8, f9, f10, f11, f12, f17, f18, f19, f20, f21, f22, f23, f24, f27, f29, f30, f32, f33, f34, f36, f37, f38, f39, f40, f41, f42, f43, f44, f45, f46, f47, f48, f49, f50, f52, f53, f54⟩ n) := rec_ok fun n q => ok_Rooms__SplitFamily_thing_by_parts (P := l.prog) (w := w) (base := base) EO CA F43 d_Rooms__bare d_Rooms__joined n ⟨below_ok q, b43⟩
  have d_Rooms__SplitFamily_thing_by_parts : MDef l.prog w K mg base ["self", "counts", "size", "number"] 44 (spA_Rooms__SplitFamily_thing_by_parts K ⟨C_Bows, C_Family, C_Rooms, C_Floors, C_Turns, C_SplitFamily, f1, f2, f3, f4, f5, f6, f7, f8, f9, f10, f11, f12, f17, f18, f19, f20, f21, f22, f23, f24, f27, f29, f30, f32, f33, f34, f36, f37, f38, f39, f40, f41, f42, f43, f44, f45, f46, f47, f48, f49, f50, f52, f53, f54⟩) f43 _ := ⟨((below_ok (L := 2) (N := 41) fun m _ => r_Rooms__SplitFamily_thing_by_parts m).mono (by decide)), b43⟩
  have d_Rooms__SplitFamily_unchecked_thing : MDef l.prog w K mg base ["self", "size", "number"] 45 (sp_Rooms__SplitFamily_unchecked_thing K ⟨C_Bows, C_Family, C_Rooms, C_Floors, C_Turns, C_SplitFamily, f1, f2, f3, f4, f5, f6, f7, f8, f9, f10, f11, f12, f17, f18, f19, f20, f21, f22, f23, f24, f27, f29, f30, f32, f33, f34, f36, f37, f38, f39, f40, f41, f42, f43, f44, f45, f46, f47, f48, f49, f50, f52, f53, f54⟩) f44 _ := ⟨(ok_Rooms__SplitFamily_unchecked_thing (P := l.prog) (w := w) (base := base) EO CA F44 d_Rooms__SplitFamily_thing_by_parts d_shares).up, b44⟩
  have d_Rooms__Family_thing_of : MDef l.prog w K mg base ["self", "size", "number"] 46 (sp_Rooms__Family_thing_of K ⟨C_Bows, C_Family, C_Rooms, C_Floors, C_Turns, C_SplitFamily, f1, f2, f3, f4, f5, f6, f7, f8, f9, f10, f11, f12, f17, f18, f19, f20, f21, f22, f23, f24, f27, f29, f30, f32, f33, f34, f36, f37, f38, f39, f40, f41, f42, f43, f44, f45, f46, f47, f48, f49, f50, f52, f53, f54⟩ ⟨c_kin, c_size, c_number, c_thing, c_family, c_way, c_apart, c_mark, c_text, c_broken⟩) f45 _ := ⟨(ok_Rooms__Family_thing_of (P := l.prog) (w := w) (base := base) EO CA F45 d_Rooms__Family_many d_Rooms__SplitFamily_unchecked_thing), b45⟩
  have d_Bows__bare : MDef l.prog w K mg base ["self"] 1 (sp_Bows__bare K ⟨C_Bows, C_Family, C_Rooms, C_Floors, C_Turns, C_SplitFamily, f1, f2, f3, f4, f5, f6, f7, f8, f9, f10, f11, f12, f17, f18, f19, f20, f21, f22, f23, f24, f27, f29, f30, f32, f33, f34, f36, f37, f38, f39, f40, f41, f42, f43, f44, f45, f46, f47, f48, f49, f50, f52, f53, f54⟩) f46 _ := ⟨(ok_Bows__bare (P := l.prog) (w := w) (base := base) EO CA F46).up, b46⟩
  have d_Bows__joined : MDef l.prog w K mg base ["self", "left", "right"] 2 (sp_Bows__joined K ⟨C_Bows, C_Family, C_Rooms, C_Floors, C_Turns, C_SplitFamily, f1, f2, f3, f4, f5, f6, f7, f8, f9, f10, f11, f12, f17, f18, f19, f20, f21, f22, f23, f24, f27, f29, f30, f32, f33, f34, f36, f37, f38, f39, f40, f41, f42, f43, f44, f45, f46, f47, f48, f49, f50, f52, f53, f54⟩) f47 _ := ⟨(ok_Bows__joined (P := l.prog) (w := w) (base := base) EO CA F47 d_pairs_raised_by m_len).up, b47⟩
  have r_Bows__SplitFamily_thing_by_parts : ∀ n, FnOk l.prog w K mg base (CX1 l.prog w) (2 + n + 1) f48 _ ["self", "counts", "size", "number"] (sp_Bows__SplitFamily_thing_by_parts K ⟨C_Bows, C_Family, C_Rooms, C_Floors, C_Turns, C_SplitFamily, f1, f2, f3, f4, f5, f6, f7, f8, f9, f10, f11, f12, f17, f18, f19, f20, f21, f22, f23, f24, f27, f29, f30, f32, f33, f34, f36, f37, f38, f39, f40, f41, f42, f43, f44, f45, f46, f47, f48, f49, f50, f52, f53, f54⟩ n) := rec_ok fun n q => ok_Bows__SplitFamily_thing_by_parts (P := l.prog) (w := w) (base := base) EO CA F48 d_Bows__bare d_Bows__joined n ⟨below_ok q, b48⟩
  have d_Bows__SplitFamily_thing_by_parts : MDef l.prog w K mg base ["self", "counts", "size", "number"] 44 (spA_Bows__SplitFamily_thing_by_parts K ⟨C_Bows, C_Family, C_Rooms, C_Floors, C_Turns, C_SplitFamily, f1, f2, f3, f4, f5, f6, f7, f8, f9, f10, f11, f12, f17, f18, f19, f20, f21, f22, f23, f24, f27, f29, f30, f32, f33, f34, f36, f37, f38, f39, f40, f41, f42, f43, f44, f45, f46, f47, f48, f49, f50, f52, f53, f54⟩) f48 _ := ⟨((below_ok (L := 2) (N := 41) fun m _ => r_Bows__SplitFamily_thing_by_parts m).mono (by decide)), b48⟩
  have d_Bows__SplitFamily_unchecked_thing : MDef l.prog w K mg base ["self", "size", "number"] 45 (sp_Bows__SplitFamily_unchecked_thing K ⟨C_Bows, C_Family, C_Rooms, C_Floors, C_Turns, C_SplitFamily, f1, f2, f3, f4, f5, f6, f7, f8, f9, f10, f11, f12, f17, f18, f19, f20, f21, f22, f23, f24, f27, f29, f30, f32, f33, f34, f36, f37, f38, f39, f40, f41, f42, f43, f44, f45, f46, f47, f48, f49, f50, f52, f53, f54⟩) f49 _ := ⟨(ok_Bows__SplitFamily_unchecked_thing (P := l.prog) (w := w) (base := base) EO CA F49 d_Bows__SplitFamily_thing_by_parts d_shares).up, b49⟩
  have d_Bows__Family_thing_of : MDef l.prog w K mg base ["self", "size", "number"] 46 (sp_Bows__Family_thing_of K ⟨C_Bows, C_Family, C_Rooms, C_Floors, C_Turns, C_SplitFamily, f1, f2, f3, f4, f5, f6, f7, f8, f9, f10, f11, f12, f17, f18, f19, f20, f21, f22, f23, f24, f27, f29, f30, f32, f33, f34, f36, f37, f38, f39, f40, f41, f42, f43, f44, f45, f46, f47, f48, f49, f50, f52, f53, f54⟩ ⟨c_kin, c_size, c_number, c_thing, c_family, c_way, c_apart, c_mark, c_text, c_broken⟩) f50 _ := ⟨(ok_Bows__Family_thing_of (P := l.prog) (w := w) (base := base) EO CA F50 d_Bows__Family_many d_Bows__SplitFamily_unchecked_thing), b50⟩
  have d__law_thing_refused : Def l.prog w K mg base "_law_thing_refused" ["_law_kin_here", "_law_size", "_law_number"] 47 (sp__law_thing_refused K ⟨C_Bows, C_Family, C_Rooms, C_Floors, C_Turns, C_SplitFamily, f1, f2, f3, f4, f5, f6, f7, f8, f9, f10, f11, f12, f17, f18, f19, f20, f21, f22, f23, f24, f27, f29, f30, f32, f33, f34, f36, f37, f38, f39, f40, f41, f42, f43, f44, f45, f46, f47, f48, f49, f50, f52, f53, f54⟩ ⟨c_kin, c_size, c_number, c_thing, c_family, c_way, c_apart, c_mark, c_text, c_broken⟩) f51 _ := ⟨(ok__law_thing_refused (P := l.prog) (w := w) (base := base) EO CA F51 d_Turns__Family_thing_of d_Floors__Family_thing_of d_Rooms__Family_thing_of d_Bows__Family_thing_of d__law_classes).up, b51, k51, PySem.W.mg_of X G a51⟩
  have d_Bows__size_of : MDef l.prog w K mg base ["self", "thing"] 1 (sp_Bows__size_of K ⟨C_Bows, C_Family, C_Rooms, C_Floors, C_Turns, C_SplitFamily, f1, f2, f3, f4, f5, f6, f7, f8, f9, f10, f11, f12, f17, f18, f19, f20, f21, f22, f23, f24, f27, f29, f30, f32, f33, f34, f36, f37, f38, f39, f40, f41, f42, f43, f44, f45, f46, f47, f48, f49, f50, f52, f53, f54⟩) f52 _ := ⟨(ok_Bows__size_of (P := l.prog) (w := w) (base := base) EO CA F52 m_len).up, b52⟩
  have d_Floors__size_of : MDef l.prog w K mg base ["self", "thing"] 1 (sp_Floors__size_of K ⟨C_Bows, C_Family, C_Rooms, C_Floors, C_Turns, C_SplitFamily, f1, f2, f3, f4, f5, f6, f7, f8, f9, f10, f11, f12, f17, f18, f19, f20, f21, f22, f23, f24, f27, f29, f30, f32, f33, f34, f36, f37, f38, f39, f40, f41, f42, f43, f44, f45, f46, f47, f48, f49, f50, f52, f53, f54⟩) f53 _ := ⟨(ok_Floors__size_of (P := l.prog) (w := w) (base := base) EO CA F53).up, b53⟩
  have d_Turns__size_of : MDef l.prog w K mg base ["self", "thing"] 1 (sp_Turns__size_of K ⟨C_Bows, C_Family, C_Rooms, C_Floors, C_Turns, C_SplitFamily, f1, f2, f3, f4, f5, f6, f7, f8, f9, f10, f11, f12, f17, f18, f19, f20, f21, f22, f23, f24, f27, f29, f30, f32, f33, f34, f36, f37, f38, f39, f40, f41, f42, f43, f44, f45, f46, f47, f48, f49, f50, f52, f53, f54⟩) f54 _ := ⟨(ok_Turns__size_of (P := l.prog) (w := w) (base := base) EO CA F54 m_len).up, b54⟩
  exact ok_law (P := l.prog) (w := w) (base := base) EO CA F55 d__law_kin d__law_cell_at d__law_counts d__law_many_refused d__law_thing_refused d_Bows__Family_thing_of d_Rooms__Family_thing_of d_Floors__Family_thing_of d_Turns__Family_thing_of d_Bows__Family_many d_Rooms__Family_many d_Floors__Family_many d_Turns__Family_many d_Bows__size_of d_Rooms__size_of d_Floors__size_of d_Turns__size_of m_isinstance

theorem walk {l : PySem.W.OpenLaw} {q : Program} {loose : List Str} {XP : (Str → Option Value) → Heap → Prop} {YP : World → Heap → Prop} {d : DefRec} {K : Params → PySem.W.Frag} (hn : l.most = some 63) (hdf : d.params.defaults = [])
    (hY : ∀ (w : World) (h : Heap), YP w h → (K w.params).In h)
    (F : ∀ (w : World) (mg : Str → Option Value) (fa : Addr) (h : Heap), (K w.params).In h → h.Ns mainGlobals mg → mg d.name = some (.ref fa) →
      ∃ fd : FuncData, (∀ (s : Shared) (u : Value), BindsTo s fd ⟨[u], []⟩ [("_law_script", u)]) ∧ ∀ base : Heap, (K w.params).In base → base.Ns mainGlobals mg → FnOk l.prog w (K w.params) mg base CX0 48 fa fd ["_law_script"] (spL (K w.params))) :
    PySem.W.WalkO q loose XP YP l.row.toRowW d [] (fun f vs => PySem.call f vs) :=
  L2.walk_of (n := 63) (k := 48) (x := "_law_script") (CX := fun _ => CX0) (sp := fun w => spL (K w.params)) hn (by decide) hdf ⟨rfl, by decide, by decide⟩ hY F (fun _ _ a ns hl _ hS => ⟨a, ns, rfl, hS, hl, fun _ => rfl⟩) fun _ _ _ _ _ z => z
end Ck
open L2
namespace Ck
open PySem PySem.W PySem.Calls PyProof.Rows
noncomputable def hB : List Stmt := behindTheImports PySem.Challenge.pw_countkin_k23_four_families_refuse
noncomputable def hE : Env := { scope := PySem.Challenge.pw_countkin_k23_four_families_refuse.main.scope, locals := mainNs, globals := mainNs, cells := [], code := (.ref 13), frame := some 14 }
noncomputable def hC : Code := .body hB hE
noncomputable def hTree (P : Params) : BT := (.node (boot_o_0 P) (.node (boot_o_1 P) (.node (boot_o_3 P) (.node (boot_o_7 P) .nil .nil) (.node ⟨(.type "tuple"), none, (.seq #[] 0), #[]⟩ .nil .nil)) (.node (boot_o_5 P) (.node (boot_o_9 P) .nil .nil) (.node ⟨(.type "code"), none, (.fields #[(.str "<module>" 182), (.str "<module>" 183), (.str "/claim/cut.py" 184), (.int 1 0), (.int 0 0), (.int 0 0), (.int 0 0), (.int 0 0), (.ref 11), (.bool false), (.int 181 0), (.ref 12), .none, .none, .none, .none, (.int 185 0), (.int 1 0), (.str "/claim/cut.py" 186)]), #[]⟩ .nil .nil))) (.node (boot_o_2 P) (.node (boot_o_4 P) (.node (boot_o_8 P) .nil .nil) (.node ⟨.none, none, (.fields #[]), #[]⟩ .nil .nil)) (.node (boot_o_6 P) (.node (boot_o_10 P) .nil .nil) (.node ⟨(.type "frame"), none, .plain, #[(some (.ref 13)), (some (.ref 3)), (some (.ref 3)), none, (some (.str "__main__" 164)), none, (some (.ref 0))]⟩ .nil .nil))))
noncomputable def hS (w : World) (os : OsState) : SharedT := ⟨hTree w.params, 15, ({} : Life), Array.mk [], ⟨0, 0, 0, 0⟩, 187, os⟩
noncomputable def hQ : Program := { PySem.Challenge.pw_countkin_k23_four_families_refuse with main := { PySem.Challenge.pw_countkin_k23_four_families_refuse.main with body := [top 42] } }
noncomputable def hL : List Str := (Str.ofString "_wall" :: Str.ofString "GREATEST_SIZE" :: Str.ofString "shares" :: Str.ofString "by_rule" :: Str.ofString "KinError" :: Str.ofString "NoSize" :: Str.ofString "NoNumber" :: Str.ofString "NoThing" :: Str.ofString "NoFamily" :: Str.ofString "NoWay" :: Str.ofString "Apart" :: Str.ofString "NoMark" :: Str.ofString "NoText" :: Str.ofString "Broken" :: Str.ofString "Family" :: Str.ofString "SplitFamily" :: Str.ofString "raised_by" :: Str.ofString "pairs_raised_by" :: Str.ofString "flat" :: Str.ofString "each_once" :: Str.ofString "any_cross" :: Str.ofString "Bows" :: Str.ofString "Rooms" :: Str.ofString "neighbours" :: Str.ofString "Floors" :: Str.ofString "may_be_cut" :: Str.ofString "Turns" :: Str.ofString "comes_off_a_stack" :: Str.ofString "_law_cell_at" :: Str.ofString "_law_counts" :: Str.ofString "_law_kin" :: Str.ofString "_law_classes" :: Str.ofString "_law_many_refused" :: Str.ofString "_law_thing_refused" :: [])
noncomputable def hK : Params → Frag := fun P => (nat_lit 2, ⟨.none, none, (.dict #[] 0), #[]⟩) :: (nat_lit 3, ⟨(.type "dict"), none, (.dict (List.toArray (⟨PyData.keyHash P "__name__", .str "__name__" 165, (.str "law_countkin_k23_four_families_refuse" 916)⟩ :: ⟨PyData.keyHash P "__doc__", .str "__doc__" 166, .none⟩ :: ⟨PyData.keyHash P "__package__", .str "__package__" 167, .none⟩ :: ⟨PyData.keyHash P "__loader__", .str "__loader__" 168, (.builtin "__main__.__loader__#opaque")⟩ :: ⟨PyData.keyHash P "__spec__", .str "__spec__" 169, .none⟩ :: ⟨PyData.keyHash P "__annotations__", .str "__annotations__" 170, (.ref 6)⟩ :: ⟨PyData.keyHash P "__builtins__", .str "__builtins__" 171, (.ref 4)⟩ :: ⟨PyData.keyHash P "__file__", .str "__file__" 173, (.str "/claim/cut.py" 172)⟩ :: ⟨PyData.keyHash P "__cached__", .str "__cached__" 174, .none⟩ :: ⟨PyData.keyHash P "_wall", .str "_wall" 193, (.ref 21)⟩ :: ⟨PyData.keyHash P "GREATEST_SIZE", .str "GREATEST_SIZE" 197, (.int 40 196)⟩ :: ⟨PyData.keyHash P "shares", .str "shares" 203, (.ref 26)⟩ :: ⟨PyData.keyHash P "by_rule", .str "by_rule" 212, (.ref 33)⟩ :: ⟨PyData.keyHash P "KinError", .str "KinError" 232, (.ref 43)⟩ :: ⟨PyData.keyHash P "NoSize", .str "NoSize" 248, (.ref 56)⟩ :: ⟨PyData.keyHash P "NoNumber", .str "NoNumber" 264, (.ref 68)⟩ :: ⟨PyData.keyHash P "NoThing", .str "NoThing" 280, (.ref 80)⟩ :: ⟨PyData.keyHash P "NoFamily", .str "NoFamily" 296, (.ref 92)⟩ :: ⟨PyData.keyHash P "NoWay", .str "NoWay" 312, (.ref 104)⟩ :: ⟨PyData.keyHash P "Apart", .str "Apart" 328, (.ref 116)⟩ :: ⟨PyData.keyHash P "NoMark", .str "NoMark" 344, (.ref 128)⟩ :: ⟨PyData.keyHash P "NoText", .str "NoText" 360, (.ref 140)⟩ :: ⟨PyData.keyHash P "Broken", .str "Broken" 385, (.ref 159)⟩ :: ⟨PyData.keyHash P "Family", .str "Family" 501, (.ref 248)⟩ :: ⟨PyData.keyHash P "SplitFamily", .str "SplitFamily" 598, (.ref 325)⟩ :: ⟨PyData.keyHash P "raised_by", .str "raised_by" 606, (.ref 332)⟩ :: ⟨PyData.keyHash P "pairs_raised_by", .str "pairs_raised_by" 612, (.ref 337)⟩ :: ⟨PyData.keyHash P "flat", .str "flat" 621, (.ref 344)⟩ :: ⟨PyData.keyHash P "each_once", .str "each_once" 628, (.ref 351)⟩ :: ⟨PyData.keyHash P "any_cross", .str "any_cross" 639, (.ref 358)⟩ :: ⟨PyData.keyHash P "Bows", .str "Bows" 703, (.ref 408)⟩ :: ⟨PyData.keyHash P "Rooms", .str "Rooms" 759, (.ref 456)⟩ :: ⟨PyData.keyHash P "neighbours", .str "neighbours" 765, (.ref 463)⟩ :: ⟨PyData.keyHash P "Floors", .str "Floors" 831, (.ref 513)⟩ :: ⟨PyData.keyHash P "may_be_cut", .str "may_be_cut" 840, (.ref 522)⟩ :: ⟨PyData.keyHash P "Turns", .str "Turns" 905, (.ref 574)⟩ :: ⟨PyData.keyHash P "comes_off_a_stack", .str "comes_off_a_stack" 915, (.ref 583)⟩ :: ⟨PyData.keyHash P "_law_cell_at", .str "_law_cell_at" 925, (.ref 590)⟩ :: ⟨PyData.keyHash P "_law_counts", .str "_law_counts" 934, (.ref 597)⟩ :: ⟨PyData.keyHash P "_law_kin", .str "_law_kin" 941, (.ref 604)⟩ :: ⟨PyData.keyHash P "_law_classes", .str "_law_classes" 949, (.ref 611)⟩ :: ⟨PyData.keyHash P "_law_many_refused", .str "_law_many_refused" 959, (.ref 618)⟩ :: ⟨PyData.keyHash P "_law_thing_refused", .str "_law_thing_refused" 970, (.ref 625)⟩ :: ⟨PyData.keyHash P "law", .str "law" 987, (.ref 632)⟩ :: [])) 44), #[]⟩) :: (nat_lit 15, ⟨(.type "tuple"), none, (.seq #[] 0), #[]⟩) :: (nat_lit 17, ⟨(.type "tuple"), none, (.seq #[(.str "k" 190)] 0), #[]⟩) :: (nat_lit 18, ⟨(.type "tuple"), none, (.seq #[] 0), #[]⟩) :: (nat_lit 20, ⟨(.type "code"), none, (.fields #[(.str "_wall" 187), (.str "_wall" 188), (.str "/claim/cut.py" 189), (.int 1 0), (.int 1 0), (.int 0 0), (.int 0 0), (.int 3 0), (.ref 15), (.bool true), (.int 181 0), (.ref 16), .none, (.ref 17), (.ref 18), (.ref 19), (.int 191 0), (.int 1 0), (.str "/claim/cut.py" 192)]), #[]⟩) :: (nat_lit 21, ⟨(.type "function"), none, (.func (fnOf "_wall" "_wall" (defArgs (top 0)) (defBody (top 0)) (defScope (top 0)) .none .none .none (.str "__main__" 164) none (.ref 20) .none)), #[]⟩) :: (nat_lit 22, ⟨(.type "tuple"), none, (.seq #[] 0), #[]⟩) :: (nat_lit 25, ⟨(.type "code"), none, (.fields #[(.str "shares" 198), (.str "shares" 199), (.str "/claim/cut.py" 200), (.int 6 0), (.int 1 0), (.int 0 0), (.int 0 0), (.int 3 0), (.ref 22), (.bool true), (.int 181 0), (.ref 23), .none, .none, .none, (.ref 24), (.int 201 0), (.int 6 0), (.str "/claim/cut.py" 202)]), #[]⟩) :: (nat_lit 26, ⟨(.type "function"), none, (.func (fnOf "shares" "shares" (defArgs (top 3)) (defBody (top 3)) (defScope (top 3)) .none .none .none (.str "countkin.counts" 194) none (.ref 25) .none)), #[]⟩) :: (nat_lit 27, ⟨(.type "tuple"), none, (.seq #[] 0), #[]⟩) :: (nat_lit 29, ⟨(.type "tuple"), none, (.seq #[(.str "size" 207), (.str "share" 208), (.str "k" 209)] 0), #[]⟩) :: (nat_lit 30, ⟨(.type "tuple"), none, (.seq #[] 0), #[]⟩) :: (nat_lit 32, ⟨(.type "code"), none, (.fields #[(.str "by_rule" 204), (.str "by_rule" 205), (.str "/claim/cut.py" 206), (.int 11 0), (.int 1 0), (.int 0 0), (.int 0 0), (.int 3 0), (.ref 27), (.bool true), (.int 181 0), (.ref 28), .none, (.ref 29), (.ref 30), (.ref 31), (.int 210 0), (.int 11 0), (.str "/claim/cut.py" 211)]), #[]⟩) :: (nat_lit 33, ⟨(.type "function"), none, (.func (fnOf "by_rule" "by_rule" (defArgs (top 4)) (defBody (top 4)) (defScope (top 4)) .none .none .none (.str "countkin.counts" 194) none (.ref 32) .none)), #[]⟩) :: (nat_lit 34, ⟨(.type "tuple"), none, (.seq #[(.type "ValueError")] 0), #[]⟩) :: (nat_lit 41, ⟨(.type "tuple"), none, (.seq #[] 0), #[]⟩) :: (nat_lit 42, ⟨(.type "dict"), none, (.dict #[⟨PyData.keyHash P "__module__", .str "__module__" 222, (.str "countkin.errors" 213)⟩, ⟨PyData.keyHash P "__firstlineno__", .str "__firstlineno__" 226, (.int 17 225)⟩, ⟨PyData.keyHash P "__static_attributes__", .str "__static_attributes__" 227, (.ref 41)⟩, ⟨PyData.keyHash P "__weakref__", .str "__weakref__" 229, (.ref 44)⟩, ⟨PyData.keyHash P "__doc__", .str "__doc__" 230, .none⟩] 3), #[]⟩) :: (nat_lit 43, ⟨(.type "type"), none, (.cls ⟨"KinError", [(.type "ValueError")], [(.ref 43), (.type "ValueError"), (.type "Exception"), (.type "BaseException"), (.type "object")], 42, "KinError", true, [], [(.ref 56), (.ref 68), (.ref 80), (.ref 92), (.ref 104), (.ref 116), (.ref 128), (.ref 140), (.ref 159)], false, none, false⟩), #[(some (.ref 34)), none, (some (.str "KinError" 215)), (some (.str "KinError" 223)), (some (.builtin "ValueError.__new__")), (some (.bool true))]⟩) :: (nat_lit 44, ⟨(.type "getset_descriptor"), none, (.fields #[(.str "__weakref__" 228), (.ref 43), (.builtin "ExceptionGroup.__weakref__"), .none]), #[]⟩) :: (nat_lit 47, ⟨(.type "tuple"), none, (.seq #[(.ref 43)] 0), #[]⟩) :: (nat_lit 54, ⟨(.type "tuple"), none, (.seq #[] 0), #[]⟩) :: (nat_lit 55, ⟨(.type "dict"), none, (.dict #[⟨PyData.keyHash P "__module__", .str "__module__" 240, (.str "countkin.errors" 213)⟩, ⟨PyData.keyHash P "__firstlineno__", .str "__firstlineno__" 244, (.int 19 243)⟩, ⟨PyData.keyHash P "__static_attributes__", .str "__static_attributes__" 245, (.ref 54)⟩, ⟨PyData.keyHash P "__doc__", .str "__doc__" 246, .none⟩] 2), #[]⟩) :: (nat_lit 56, ⟨(.type "type"), none, (.cls ⟨"NoSize", [(.ref 43)], [(.ref 56), (.ref 43), (.type "ValueError"), (.type "Exception"), (.type "BaseException"), (.type "object")], 55, "NoSize", true, [], [], false, none, false⟩), #[(some (.ref 47)), none, (some (.str "NoSize" 233)), (some (.str "NoSize" 241)), (some (.builtin "ValueError.__new__")), (some (.bool true))]⟩) :: (nat_lit 59, ⟨(.type "tuple"), none, (.seq #[(.ref 43)] 0), #[]⟩) :: (nat_lit 66, ⟨(.type "tuple"), none, (.seq #[] 0), #[]⟩) :: (nat_lit 67, ⟨(.type "dict"), none, (.dict #[⟨PyData.keyHash P "__module__", .str "__module__" 256, (.str "countkin.errors" 213)⟩, ⟨PyData.keyHash P "__firstlineno__", .str "__firstlineno__" 260, (.int 21 259)⟩, ⟨PyData.keyHash P "__static_attributes__", .str "__static_attributes__" 261, (.ref 66)⟩, ⟨PyData.keyHash P "__doc__", .str "__doc__" 262, .none⟩] 2), #[]⟩) :: (nat_lit 68, ⟨(.type "type"), none, (.cls ⟨"NoNumber", [(.ref 43)], [(.ref 68), (.ref 43), (.type "ValueError"), (.type "Exception"), (.type "BaseException"), (.type "object")], 67, "NoNumber", true, [], [], false, none, false⟩), #[(some (.ref 59)), none, (some (.str "NoNumber" 249)), (some (.str "NoNumber" 257)), (some (.builtin "ValueError.__new__")), (some (.bool true))]⟩) :: (nat_lit 71, ⟨(.type "tuple"), none, (.seq #[(.ref 43)] 0), #[]⟩) :: (nat_lit 78, ⟨(.type "tuple"), none, (.seq #[] 0), #[]⟩) :: (nat_lit 79, ⟨(.type "dict"), none, (.dict #[⟨PyData.keyHash P "__module__", .str "__module__" 272, (.str "countkin.errors" 213)⟩, ⟨PyData.keyHash P "__firstlineno__", .str "__firstlineno__" 276, (.int 23 275)⟩, ⟨PyData.keyHash P "__static_attributes__", .str "__static_attributes__" 277, (.ref 78)⟩, ⟨PyData.keyHash P "__doc__", .str "__doc__" 278, .none⟩] 2), #[]⟩) :: (nat_lit 80, ⟨(.type "type"), none, (.cls ⟨"NoThing", [(.ref 43)], [(.ref 80), (.ref 43), (.type "ValueError"), (.type "Exception"), (.type "BaseException"), (.type "object")], 79, "NoThing", true, [], [], false, none, false⟩), #[(some (.ref 71)), none, (some (.str "NoThing" 265)), (some (.str "NoThing" 273)), (some (.builtin "ValueError.__new__")), (some (.bool true))]⟩) :: (nat_lit 83, ⟨(.type "tuple"), none, (.seq #[(.ref 43)] 0), #[]⟩) :: (nat_lit 90, ⟨(.type "tuple"), none, (.seq #[] 0), #[]⟩) :: (nat_lit 91, ⟨(.type "dict"), none, (.dict #[⟨PyData.keyHash P "__module__", .str "__module__" 288, (.str "countkin.errors" 213)⟩, ⟨PyData.keyHash P "__firstlineno__", .str "__firstlineno__" 292, (.int 25 291)⟩, ⟨PyData.keyHash P "__static_attributes__", .str "__static_attributes__" 293, (.ref 90)⟩, ⟨PyData.keyHash P "__doc__", .str "__doc__" 294, .none⟩] 2), #[]⟩) :: (nat_lit 92, ⟨(.type "type"), none, (.cls ⟨"NoFamily", [(.ref 43)], [(.ref 92), (.ref 43), (.type "ValueError"), (.type "Exception"), (.type "BaseException"), (.type "object")], 91, "NoFamily", true, [], [], false, none, false⟩), #[(some (.ref 83)), none, (some (.str "NoFamily" 281)), (some (.str "NoFamily" 289)), (some (.builtin "ValueError.__new__")), (some (.bool true))]⟩) :: (nat_lit 95, ⟨(.type "tuple"), none, (.seq #[(.ref 43)] 0), #[]⟩) :: (nat_lit 102, ⟨(.type "tuple"), none, (.seq #[] 0), #[]⟩) :: (nat_lit 103, ⟨(.type "dict"), none, (.dict #[⟨PyData.keyHash P "__module__", .str "__module__" 304, (.str "countkin.errors" 213)⟩, ⟨PyData.keyHash P "__firstlineno__", .str "__firstlineno__" 308, (.int 27 307)⟩, ⟨PyData.keyHash P "__static_attributes__", .str "__static_attributes__" 309, (.ref 102)⟩, ⟨PyData.keyHash P "__doc__", .str "__doc__" 310, .none⟩] 2), #[]⟩) :: (nat_lit 104, ⟨(.type "type"), none, (.cls ⟨"NoWay", [(.ref 43)], [(.ref 104), (.ref 43), (.type "ValueError"), (.type "Exception"), (.type "BaseException"), (.type "object")], 103, "NoWay", true, [], [], false, none, false⟩), #[(some (.ref 95)), none, (some (.str "NoWay" 297)), (some (.str "NoWay" 305)), (some (.builtin "ValueError.__new__")), (some (.bool true))]⟩) :: (nat_lit 107, ⟨(.type "tuple"), none, (.seq #[(.ref 43)] 0), #[]⟩) :: (nat_lit 114, ⟨(.type "tuple"), none, (.seq #[] 0), #[]⟩) :: (nat_lit 115, ⟨(.type "dict"), none, (.dict #[⟨PyData.keyHash P "__module__", .str "__module__" 320, (.str "countkin.errors" 213)⟩, ⟨PyData.keyHash P "__firstlineno__", .str "__firstlineno__" 324, (.int 29 323)⟩, ⟨PyData.keyHash P "__static_attributes__", .str "__static_attributes__" 325, (.ref 114)⟩, ⟨PyData.keyHash P "__doc__", .str "__doc__" 326, .none⟩] 2), #[]⟩) :: (nat_lit 116, ⟨(.type "type"), none, (.cls ⟨"Apart", [(.ref 43)], [(.ref 116), (.ref 43), (.type "ValueError"), (.type "Exception"), (.type "BaseException"), (.type "object")], 115, "Apart", true, [], [], false, none, false⟩), #[(some (.ref 107)), none, (some (.str "Apart" 313)), (some (.str "Apart" 321)), (some (.builtin "ValueError.__new__")), (some (.bool true))]⟩) :: (nat_lit 119, ⟨(.type "tuple"), none, (.seq #[(.ref 43)] 0), #[]⟩) :: (nat_lit 126, ⟨(.type "tuple"), none, (.seq #[] 0), #[]⟩) :: (nat_lit 127, ⟨(.type "dict"), none, (.dict #[⟨PyData.keyHash P "__module__", .str "__module__" 336, (.str "countkin.errors" 213)⟩, ⟨PyData.keyHash P "__firstlineno__", .str "__firstlineno__" 340, (.int 31 339)⟩, ⟨PyData.keyHash P "__static_attributes__", .str "__static_attributes__" 341, (.ref 126)⟩, ⟨PyData.keyHash P "__doc__", .str "__doc__" 342, .none⟩] 2), #[]⟩) :: (nat_lit 128, ⟨(.type "type"), none, (.cls ⟨"NoMark", [(.ref 43)], [(.ref 128), (.ref 43), (.type "ValueError"), (.type "Exception"), (.type "BaseException"), (.type "object")], 127, "NoMark", true, [], [], false, none, false⟩), #[(some (.ref 119)), none, (some (.str "NoMark" 329)), (some (.str "NoMark" 337)), (some (.builtin "ValueError.__new__")), (some (.bool true))]⟩) :: (nat_lit 131, ⟨(.type "tuple"), none, (.seq #[(.ref 43)] 0), #[]⟩) :: (nat_lit 138, ⟨(.type "tuple"), none, (.seq #[] 0), #[]⟩) :: (nat_lit 139, ⟨(.type "dict"), none, (.dict #[⟨PyData.keyHash P "__module__", .str "__module__" 352, (.str "countkin.errors" 213)⟩, ⟨PyData.keyHash P "__firstlineno__", .str "__firstlineno__" 356, (.int 33 355)⟩, ⟨PyData.keyHash P "__static_attributes__", .str "__static_attributes__" 357, (.ref 138)⟩, ⟨PyData.keyHash P "__doc__", .str "__doc__" 358, .none⟩] 2), #[]⟩) :: (nat_lit 140, ⟨(.type "type"), none, (.cls ⟨"NoText", [(.ref 43)], [(.ref 140), (.ref 43), (.type "ValueError"), (.type "Exception"), (.type "BaseException"), (.type "object")], 139, "NoText", true, [], [], false, none, false⟩), #[(some (.ref 131)), none, (some (.str "NoText" 345)), (some (.str "NoText" 353)), (some (.builtin "ValueError.__new__")), (some (.bool true))]⟩) :: (nat_lit 143, ⟨(.type "tuple"), none, (.seq #[(.ref 43)] 0), #[]⟩) :: (nat_lit 150, ⟨(.type "tuple"), none, (.seq #[] 0), #[]⟩) :: (nat_lit 152, ⟨(.type "tuple"), none, (.seq #[(.str "self" 376), (.str "place" 377)] 0), #[]⟩) :: (nat_lit 153, ⟨(.type "tuple"), none, (.seq #[] 0), #[]⟩) :: (nat_lit 155, ⟨(.type "code"), none, (.fields #[(.str "__init__" 373), (.str "Broken.__init__" 374), (.str "/claim/cut.py" 375), (.int 37 0), (.int 2 0), (.int 0 0), (.int 0 0), (.int 3 0), (.ref 150), (.bool true), (.int 181 0), (.ref 151), .none, (.ref 152), (.ref 153), (.ref 154), (.int 378 0), (.int 37 0), (.str "/claim/cut.py" 379)]), #[]⟩) :: (nat_lit 156, ⟨(.type "function"), none, (.func (fnOf "__init__" "Broken.__init__" (defArgs (inClass (top 15) 0)) (defBody (inClass (top 15) 0)) (defScope (inClass (top 15) 0)) .none .none .none (.str "countkin.errors" 213) none (.ref 155) .none)), #[]⟩) :: (nat_lit 157, ⟨(.type "tuple"), none, (.seq #[(.str "place" 381)] 0), #[]⟩) :: (nat_lit 158, ⟨(.type "dict"), none, (.dict #[⟨PyData.keyHash P "__module__", .str "__module__" 368, (.str "countkin.errors" 213)⟩, ⟨PyData.keyHash P "__firstlineno__", .str "__firstlineno__" 372, (.int 35 371)⟩, ⟨PyData.keyHash P "__init__", .str "__init__" 380, (.ref 156)⟩, ⟨PyData.keyHash P "__static_attributes__", .str "__static_attributes__" 382, (.ref 157)⟩, ⟨PyData.keyHash P "__doc__", .str "__doc__" 383, .none⟩] 2), #[]⟩) :: (nat_lit 159, ⟨(.type "type"), none, (.cls ⟨"Broken", [(.ref 43)], [(.ref 159), (.ref 43), (.type "ValueError"), (.type "Exception"), (.type "BaseException"), (.type "object")], 158, "Broken", true, [], [], false, none, false⟩), #[(some (.ref 143)), none, (some (.str "Broken" 361)), (some (.str "Broken" 369)), (some (.builtin "ValueError.__new__")), (some (.bool true))]⟩) :: (nat_lit 169, ⟨(.type "tuple"), none, (.seq #[] 0), #[]⟩) :: (nat_lit 171, ⟨(.type "tuple"), none, (.seq #[(.str "self" 403), (.str "word" 404), (.str "least" 405)] 0), #[]⟩) :: (nat_lit 172, ⟨(.type "tuple"), none, (.seq #[] 0), #[]⟩) :: (nat_lit 174, ⟨(.type "code"), none, (.fields #[(.str "__init__" 400), (.str "Family.__init__" 401), (.str "/claim/cut.py" 402), (.int 43 0), (.int 3 0), (.int 0 0), (.int 0 0), (.int 3 0), (.ref 169), (.bool true), (.int 181 0), (.ref 170), .none, (.ref 171), (.ref 172), (.ref 173), (.int 406 0), (.int 43 0), (.str "/claim/cut.py" 407)]), #[]⟩) :: (nat_lit 175, ⟨(.type "function"), none, (.func (fnOf "__init__" "Family.__init__" (defArgs (inClass (top 17) 0)) (defBody (inClass (top 17) 0)) (defScope (inClass (top 17) 0)) .none .none .none (.str "countkin.kin" 386) none (.ref 174) .none)), #[]⟩) :: (nat_lit 176, ⟨(.type "tuple"), none, (.seq #[] 0), #[]⟩) :: (nat_lit 178, ⟨(.type "tuple"), none, (.seq #[(.str "self" 412), (.str "thing" 413)] 0), #[]⟩) :: (nat_lit 179, ⟨(.type "tuple"), none, (.seq #[] 0), #[]⟩) :: (nat_lit 181, ⟨(.type "code"), none, (.fields #[(.str "size_of" 409), (.str "Family.size_of" 410), (.str "/claim/cut.py" 411), (.int 47 0), (.int 2 0), (.int 0 0), (.int 0 0), (.int 3 0), (.ref 176), (.bool true), (.int 181 0), (.ref 177), .none, (.ref 178), (.ref 179), (.ref 180), (.int 414 0), (.int 47 0), (.str "/claim/cut.py" 415)]), #[]⟩) :: (nat_lit 182, ⟨(.type "function"), none, (.func (fnOf "size_of" "Family.size_of" (defArgs (inClass (top 17) 1)) (defBody (inClass (top 17) 1)) (defScope (inClass (top 17) 1)) .none .none .none (.str "countkin.kin" 386) none (.ref 181) .none)), #[]⟩) :: (nat_lit 183, ⟨(.type "tuple"), none, (.seq #[] 0), #[]⟩) :: (nat_lit 185, ⟨(.type "tuple"), none, (.seq #[(.str "self" 420), (.str "thing" 421)] 0), #[]⟩) :: (nat_lit 186, ⟨(.type "tuple"), none, (.seq #[] 0), #[]⟩) :: (nat_lit 188, ⟨(.type "code"), none, (.fields #[(.str "is_one" 417), (.str "Family.is_one" 418), (.str "/claim/cut.py" 419), (.int 50 0), (.int 2 0), (.int 0 0), (.int 0 0), (.int 3 0), (.ref 183), (.bool true), (.int 181 0), (.ref 184), .none, (.ref 185), (.ref 186), (.ref 187), (.int 422 0), (.int 50 0), (.str "/claim/cut.py" 423)]), #[]⟩) :: (nat_lit 189, ⟨(.type "function"), none, (.func (fnOf "is_one" "Family.is_one" (defArgs (inClass (top 17) 2)) (defBody (inClass (top 17) 2)) (defScope (inClass (top 17) 2)) .none .none .none (.str "countkin.kin" 386) none (.ref 188) .none)), #[]⟩) :: (nat_lit 190, ⟨(.type "tuple"), none, (.seq #[] 0), #[]⟩) :: (nat_lit 192, ⟨(.type "tuple"), none, (.seq #[(.str "self" 428), (.str "size" 429)] 0), #[]⟩) :: (nat_lit 193, ⟨(.type "tuple"), none, (.seq #[] 0), #[]⟩) :: (nat_lit 195, ⟨(.type "code"), none, (.fields #[(.str "unchecked_many" 425), (.str "Family.unchecked_many" 426), (.str "/claim/cut.py" 427), (.int 53 0), (.int 2 0), (.int 0 0), (.int 0 0), (.int 3 0), (.ref 190), (.bool true), (.int 181 0), (.ref 191), .none, (.ref 192), (.ref 193), (.ref 194), (.int 430 0), (.int 53 0), (.str "/claim/cut.py" 431)]), #[]⟩) :: (nat_lit 196, ⟨(.type "function"), none, (.func (fnOf "unchecked_many" "Family.unchecked_many" (defArgs (inClass (top 17) 3)) (defBody (inClass (top 17) 3)) (defScope (inClass (top 17) 3)) .none .none .none (.str "countkin.kin" 386) none (.ref 195) .none)), #[]⟩) :: (nat_lit 197, ⟨(.type "tuple"), none, (.seq #[] 0), #[]⟩) :: (nat_lit 199, ⟨(.type "tuple"), none, (.seq #[(.str "self" 436), (.str "thing" 437)] 0), #[]⟩) :: (nat_lit 200, ⟨(.type "tuple"), none, (.seq #[] 0), #[]⟩) :: (nat_lit 202, ⟨(.type "code"), none, (.fields #[(.str "unchecked_number" 433), (.str "Family.unchecked_number" 434), (.str "/claim/cut.py" 435), (.int 56 0), (.int 2 0), (.int 0 0), (.int 0 0), (.int 3 0), (.ref 197), (.bool true), (.int 181 0), (.ref 198), .none, (.ref 199), (.ref 200), (.ref 201), (.int 438 0), (.int 56 0), (.str "/claim/cut.py" 439)]), #[]⟩) :: (nat_lit 203, ⟨(.type "function"), none, (.func (fnOf "unchecked_number" "Family.unchecked_number" (defArgs (inClass (top 17) 4)) (defBody (inClass (top 17) 4)) (defScope (inClass (top 17) 4)) .none .none .none (.str "countkin.kin" 386) none (.ref 202) .none)), #[]⟩) :: (nat_lit 204, ⟨(.type "tuple"), none, (.seq #[] 0), #[]⟩) :: (nat_lit 206, ⟨(.type "tuple"), none, (.seq #[(.str "self" 444), (.str "size" 445), (.str "number" 446)] 0), #[]⟩) :: (nat_lit 207, ⟨(.type "tuple"), none, (.seq #[] 0), #[]⟩) :: (nat_lit 209, ⟨(.type "code"), none, (.fields #[(.str "unchecked_thing" 441), (.str "Family.unchecked_thing" 442), (.str "/claim/cut.py" 443), (.int 59 0), (.int 3 0), (.int 0 0), (.int 0 0), (.int 3 0), (.ref 204), (.bool true), (.int 181 0), (.ref 205), .none, (.ref 206), (.ref 207), (.ref 208), (.int 447 0), (.int 59 0), (.str "/claim/cut.py" 448)]), #[]⟩) :: (nat_lit 210, ⟨(.type "function"), none, (.func (fnOf "unchecked_thing" "Family.unchecked_thing" (defArgs (inClass (top 17) 5)) (defBody (inClass (top 17) 5)) (defScope (inClass (top 17) 5)) .none .none .none (.str "countkin.kin" 386) none (.ref 209) .none)), #[]⟩) :: (nat_lit 211, ⟨(.type "tuple"), none, (.seq #[] 0), #[]⟩) :: (nat_lit 213, ⟨(.type "tuple"), none, (.seq #[(.str "self" 453), (.str "size" 454)] 0), #[]⟩) :: (nat_lit 214, ⟨(.type "tuple"), none, (.seq #[] 0), #[]⟩) :: (nat_lit 216, ⟨(.type "code"), none, (.fields #[(.str "many" 450), (.str "Family.many" 451), (.str "/claim/cut.py" 452), (.int 62 0), (.int 2 0), (.int 0 0), (.int 0 0), (.int 3 0), (.ref 211), (.bool true), (.int 181 0), (.ref 212), .none, (.ref 213), (.ref 214), (.ref 215), (.int 455 0), (.int 62 0), (.str "/claim/cut.py" 456)]), #[]⟩) :: (nat_lit 217, ⟨(.type "function"), none, (.func (fnOf "many" "Family.many" (defArgs (inClass (top 17) 6)) (defBody (inClass (top 17) 6)) (defScope (inClass (top 17) 6)) .none .none .none (.str "countkin.kin" 386) none (.ref 216) .none)), #[]⟩) :: (nat_lit 218, ⟨(.type "tuple"), none, (.seq #[] 0), #[]⟩) :: (nat_lit 220, ⟨(.type "tuple"), none, (.seq #[(.str "self" 461), (.str "thing" 462)] 0), #[]⟩) :: (nat_lit 221, ⟨(.type "tuple"), none, (.seq #[] 0), #[]⟩) :: (nat_lit 223, ⟨(.type "code"), none, (.fields #[(.str "refuse_other" 458), (.str "Family.refuse_other" 459), (.str "/claim/cut.py" 460), (.int 67 0), (.int 2 0), (.int 0 0), (.int 0 0), (.int 3 0), (.ref 218), (.bool true), (.int 181 0), (.ref 219), .none, (.ref 220), (.ref 221), (.ref 222), (.int 463 0), (.int 67 0), (.str "/claim/cut.py" 464)]), #[]⟩) :: (nat_lit 224, ⟨(.type "function"), none, (.func (fnOf "refuse_other" "Family.refuse_other" (defArgs (inClass (top 17) 7)) (defBody (inClass (top 17) 7)) (defScope (inClass (top 17) 7)) .none .none .none (.str "countkin.kin" 386) none (.ref 223) .none)), #[]⟩) :: (nat_lit 225, ⟨(.type "tuple"), none, (.seq #[] 0), #[]⟩) :: (nat_lit 227, ⟨(.type "tuple"), none, (.seq #[(.str "self" 469), (.str "thing" 470)] 0), #[]⟩) :: (nat_lit 228, ⟨(.type "tuple"), none, (.seq #[] 0), #[]⟩) :: (nat_lit 230, ⟨(.type "code"), none, (.fields #[(.str "number_of" 466), (.str "Family.number_of" 467), (.str "/claim/cut.py" 468), (.int 70 0), (.int 2 0), (.int 0 0), (.int 0 0), (.int 3 0), (.ref 225), (.bool true), (.int 181 0), (.ref 226), .none, (.ref 227), (.ref 228), (.ref 229), (.int 471 0), (.int 70 0), (.str "/claim/cut.py" 472)]), #[]⟩) :: (nat_lit 231, ⟨(.type "function"), none, (.func (fnOf "number_of" "Family.number_of" (defArgs (inClass (top 17) 8)) (defBody (inClass (top 17) 8)) (defScope (inClass (top 17) 8)) .none .none .none (.str "countkin.kin" 386) none (.ref 230) .none)), #[]⟩) :: (nat_lit 232, ⟨(.type "tuple"), none, (.seq #[] 0), #[]⟩) :: (nat_lit 234, ⟨(.type "tuple"), none, (.seq #[(.str "self" 477), (.str "size" 478), (.str "number" 479), (.str "most" 480)] 0), #[]⟩) :: (nat_lit 235, ⟨(.type "tuple"), none, (.seq #[] 0), #[]⟩) :: (nat_lit 237, ⟨(.type "code"), none, (.fields #[(.str "thing_of" 474), (.str "Family.thing_of" 475), (.str "/claim/cut.py" 476), (.int 73 0), (.int 3 0), (.int 0 0), (.int 0 0), (.int 3 0), (.ref 232), (.bool true), (.int 181 0), (.ref 233), .none, (.ref 234), (.ref 235), (.ref 236), (.int 481 0), (.int 73 0), (.str "/claim/cut.py" 482)]), #[]⟩) :: (nat_lit 238, ⟨(.type "function"), none, (.func (fnOf "thing_of" "Family.thing_of" (defArgs (inClass (top 17) 9)) (defBody (inClass (top 17) 9)) (defScope (inClass (top 17) 9)) .none .none .none (.str "countkin.kin" 386) none (.ref 237) .none)), #[]⟩) :: (nat_lit 239, ⟨(.type "tuple"), none, (.seq #[] 0), #[]⟩) :: (nat_lit 241, ⟨(.type "tuple"), none, (.seq #[(.str "self" 487), (.str "thing" 488)] 0), #[]⟩) :: (nat_lit 242, ⟨(.type "tuple"), none, (.seq #[] 0), #[]⟩) :: (nat_lit 244, ⟨(.type "code"), none, (.fields #[(.str "next_of" 484), (.str "Family.next_of" 485), (.str "/claim/cut.py" 486), (.int 79 0), (.int 2 0), (.int 0 0), (.int 0 0), (.int 3 0), (.ref 239), (.bool true), (.int 181 0), (.ref 240), .none, (.ref 241), (.ref 242), (.ref 243), (.int 489 0), (.int 79 0), (.str "/claim/cut.py" 490)]), #[]⟩) :: (nat_lit 245, ⟨(.type "function"), none, (.func (fnOf "next_of" "Family.next_of" (defArgs (inClass (top 17) 10)) (defBody (inClass (top 17) 10)) (defScope (inClass (top 17) 10)) .none .none .none (.str "countkin.kin" 386) none (.ref 244) .none)), #[]⟩) :: (nat_lit 246, ⟨(.type "tuple"), none, (.seq #[(.str "least" 492), (.str "word" 493)] 0), #[]⟩) :: (nat_lit 247, ⟨(.type "dict"), none, (.dict #[⟨PyData.keyHash P "__module__", .str "__module__" 395, (.str "countkin.kin" 386)⟩, ⟨PyData.keyHash P "__firstlineno__", .str "__firstlineno__" 399, (.int 41 398)⟩, ⟨PyData.keyHash P "__init__", .str "__init__" 408, (.ref 175)⟩, ⟨PyData.keyHash P "size_of", .str "size_of" 416, (.ref 182)⟩, ⟨PyData.keyHash P "is_one", .str "is_one" 424, (.ref 189)⟩, ⟨PyData.keyHash P "unchecked_many", .str "unchecked_many" 432, (.ref 196)⟩, ⟨PyData.keyHash P "unchecked_number", .str "unchecked_number" 440, (.ref 203)⟩, ⟨PyData.keyHash P "unchecked_thing", .str "unchecked_thing" 449, (.ref 210)⟩, ⟨PyData.keyHash P "many", .str "many" 457, (.ref 217)⟩, ⟨PyData.keyHash P "refuse_other", .str "refuse_other" 465, (.ref 224)⟩, ⟨PyData.keyHash P "number_of", .str "number_of" 473, (.ref 231)⟩, ⟨PyData.keyHash P "thing_of", .str "thing_of" 483, (.ref 238)⟩, ⟨PyData.keyHash P "next_of", .str "next_of" 491, (.ref 245)⟩, ⟨PyData.keyHash P "__static_attributes__", .str "__static_attributes__" 494, (.ref 246)⟩, ⟨PyData.keyHash P "__dict__", .str "__dict__" 496, (.ref 249)⟩, ⟨PyData.keyHash P "__weakref__", .str "__weakref__" 498, (.ref 250)⟩, ⟨PyData.keyHash P "__doc__", .str "__doc__" 499, .none⟩] 4), #[]⟩) :: (nat_lit 248, ⟨(.type "type"), none, (.cls ⟨"Family", [(.type "object")], [(.ref 248), (.type "object")], 247, "Family", true, [], [(.ref 325)], false, none, false⟩), #[none, none, (some (.str "Family" 388)), (some (.str "Family" 396)), (some (.builtin "object.__new__")), (some (.bool true))]⟩) :: (nat_lit 249, ⟨(.type "getset_descriptor"), none, (.fields #[(.str "__dict__" 495), (.ref 248), (.builtin "function.__dict__"), (.builtin "function.__dict__#set")]), #[]⟩) :: (nat_lit 250, ⟨(.type "getset_descriptor"), none, (.fields #[(.str "__weakref__" 497), (.ref 248), (.builtin "ExceptionGroup.__weakref__"), .none]), #[]⟩) :: (nat_lit 253, ⟨(.type "tuple"), none, (.seq #[(.ref 248)] 0), #[]⟩) :: (nat_lit 260, ⟨(.type "tuple"), none, (.seq #[] 0), #[]⟩) :: (nat_lit 262, ⟨(.type "tuple"), none, (.seq #[(.str "self" 517), (.str "word" 518)] 0), #[]⟩) :: (nat_lit 263, ⟨(.type "tuple"), none, (.seq #[] 0), #[]⟩) :: (nat_lit 265, ⟨(.type "code"), none, (.fields #[(.str "__init__" 514), (.str "SplitFamily.__init__" 515), (.str "/claim/cut.py" 516), (.int 83 0), (.int 2 0), (.int 0 0), (.int 0 0), (.int 3 0), (.ref 260), (.bool true), (.int 181 0), (.ref 261), .none, (.ref 262), (.ref 263), (.ref 264), (.int 519 0), (.int 83 0), (.str "/claim/cut.py" 520)]), #[]⟩) :: (nat_lit 266, ⟨(.type "function"), none, (.func (fnOf "__init__" "SplitFamily.__init__" (defArgs (inClass (top 18) 0)) (defBody (inClass (top 18) 0)) (defScope (inClass (top 18) 0)) .none .none .none (.str "countkin.kin" 386) none (.ref 265) .none)), #[]⟩) :: (nat_lit 267, ⟨(.type "tuple"), none, (.seq #[] 0), #[]⟩) :: (nat_lit 269, ⟨(.type "tuple"), none, (.seq #[(.str "self" 525)] 0), #[]⟩) :: (nat_lit 270, ⟨(.type "tuple"), none, (.seq #[] 0), #[]⟩) :: (nat_lit 272, ⟨(.type "code"), none, (.fields #[(.str "bare" 522), (.str "SplitFamily.bare" 523), (.str "/claim/cut.py" 524), (.int 86 0), (.int 1 0), (.int 0 0), (.int 0 0), (.int 3 0), (.ref 267), (.bool true), (.int 181 0), (.ref 268), .none, (.ref 269), (.ref 270), (.ref 271), (.int 526 0), (.int 86 0), (.str "/claim/cut.py" 527)]), #[]⟩) :: (nat_lit 273, ⟨(.type "function"), none, (.func (fnOf "bare" "SplitFamily.bare" (defArgs (inClass (top 18) 1)) (defBody (inClass (top 18) 1)) (defScope (inClass (top 18) 1)) .none .none .none (.str "countkin.kin" 386) none (.ref 272) .none)), #[]⟩) :: (nat_lit 274, ⟨(.type "tuple"), none, (.seq #[] 0), #[]⟩) :: (nat_lit 276, ⟨(.type "tuple"), none, (.seq #[(.str "self" 532), (.str "thing" 533)] 0), #[]⟩) :: (nat_lit 277, ⟨(.type "tuple"), none, (.seq #[] 0), #[]⟩) :: (nat_lit 279, ⟨(.type "code"), none, (.fields #[(.str "parted" 529), (.str "SplitFamily.parted" 530), (.str "/claim/cut.py" 531), (.int 89 0), (.int 2 0), (.int 0 0), (.int 0 0), (.int 3 0), (.ref 274), (.bool true), (.int 181 0), (.ref 275), .none, (.ref 276), (.ref 277), (.ref 278), (.int 534 0), (.int 89 0), (.str "/claim/cut.py" 535)]), #[]⟩) :: (nat_lit 280, ⟨(.type "function"), none, (.func (fnOf "parted" "SplitFamily.parted" (defArgs (inClass (top 18) 2)) (defBody (inClass (top 18) 2)) (defScope (inClass (top 18) 2)) .none .none .none (.str "countkin.kin" 386) none (.ref 279) .none)), #[]⟩) :: (nat_lit 281, ⟨(.type "tuple"), none, (.seq #[] 0), #[]⟩) :: (nat_lit 283, ⟨(.type "tuple"), none, (.seq #[(.str "self" 540), (.str "left" 541), (.str "right" 542)] 0), #[]⟩) :: (nat_lit 284, ⟨(.type "tuple"), none, (.seq #[] 0), #[]⟩) :: (nat_lit 286, ⟨(.type "code"), none, (.fields #[(.str "joined" 537), (.str "SplitFamily.joined" 538), (.str "/claim/cut.py" 539), (.int 92 0), (.int 3 0), (.int 0 0), (.int 0 0), (.int 3 0), (.ref 281), (.bool true), (.int 181 0), (.ref 282), .none, (.ref 283), (.ref 284), (.ref 285), (.int 543 0), (.int 92 0), (.str "/claim/cut.py" 544)]), #[]⟩) :: (nat_lit 287, ⟨(.type "function"), none, (.func (fnOf "joined" "SplitFamily.joined" (defArgs (inClass (top 18) 3)) (defBody (inClass (top 18) 3)) (defScope (inClass (top 18) 3)) .none .none .none (.str "countkin.kin" 386) none (.ref 286) .none)), #[]⟩) :: (nat_lit 288, ⟨(.type "tuple"), none, (.seq #[] 0), #[]⟩) :: (nat_lit 290, ⟨(.type "tuple"), none, (.seq #[(.str "self" 549), (.str "size" 550)] 0), #[]⟩) :: (nat_lit 291, ⟨(.type "tuple"), none, (.seq #[] 0), #[]⟩) :: (nat_lit 293, ⟨(.type "code"), none, (.fields #[(.str "unchecked_many" 546), (.str "SplitFamily.unchecked_many" 547), (.str "/claim/cut.py" 548), (.int 95 0), (.int 2 0), (.int 0 0), (.int 0 0), (.int 3 0), (.ref 288), (.bool true), (.int 181 0), (.ref 289), .none, (.ref 290), (.ref 291), (.ref 292), (.int 551 0), (.int 95 0), (.str "/claim/cut.py" 552)]), #[]⟩) :: (nat_lit 294, ⟨(.type "function"), none, (.func (fnOf "unchecked_many" "SplitFamily.unchecked_many" (defArgs (inClass (top 18) 4)) (defBody (inClass (top 18) 4)) (defScope (inClass (top 18) 4)) .none .none .none (.str "countkin.kin" 386) none (.ref 293) .none)), #[]⟩) :: (nat_lit 295, ⟨(.type "tuple"), none, (.seq #[] 0), #[]⟩) :: (nat_lit 297, ⟨(.type "tuple"), none, (.seq #[(.str "self" 557), (.str "thing" 558)] 0), #[]⟩) :: (nat_lit 298, ⟨(.type "tuple"), none, (.seq #[] 0), #[]⟩) :: (nat_lit 300, ⟨(.type "code"), none, (.fields #[(.str "unchecked_number" 554), (.str "SplitFamily.unchecked_number" 555), (.str "/claim/cut.py" 556), (.int 98 0), (.int 2 0), (.int 0 0), (.int 0 0), (.int 3 0), (.ref 295), (.bool true), (.int 181 0), (.ref 296), .none, (.ref 297), (.ref 298), (.ref 299), (.int 559 0), (.int 98 0), (.str "/claim/cut.py" 560)]), #[]⟩) :: (nat_lit 301, ⟨(.type "function"), none, (.func (fnOf "unchecked_number" "SplitFamily.unchecked_number" (defArgs (inClass (top 18) 5)) (defBody (inClass (top 18) 5)) (defScope (inClass (top 18) 5)) .none .none .none (.str "countkin.kin" 386) none (.ref 300) .none)), #[]⟩) :: (nat_lit 302, ⟨(.type "tuple"), none, (.seq #[] 0), #[]⟩) :: (nat_lit 304, ⟨(.type "tuple"), none, (.seq #[(.str "self" 565), (.str "size" 566), (.str "number" 567)] 0), #[]⟩) :: (nat_lit 305, ⟨(.type "tuple"), none, (.seq #[] 0), #[]⟩) :: (nat_lit 307, ⟨(.type "code"), none, (.fields #[(.str "unchecked_thing" 562), (.str "SplitFamily.unchecked_thing" 563), (.str "/claim/cut.py" 564), (.int 101 0), (.int 3 0), (.int 0 0), (.int 0 0), (.int 3 0), (.ref 302), (.bool true), (.int 181 0), (.ref 303), .none, (.ref 304), (.ref 305), (.ref 306), (.int 568 0), (.int 101 0), (.str "/claim/cut.py" 569)]), #[]⟩) :: (nat_lit 308, ⟨(.type "function"), none, (.func (fnOf "unchecked_thing" "SplitFamily.unchecked_thing" (defArgs (inClass (top 18) 6)) (defBody (inClass (top 18) 6)) (defScope (inClass (top 18) 6)) .none .none .none (.str "countkin.kin" 386) none (.ref 307) .none)), #[]⟩) :: (nat_lit 309, ⟨(.type "tuple"), none, (.seq #[] 0), #[]⟩) :: (nat_lit 311, ⟨(.type "tuple"), none, (.seq #[(.str "self" 574), (.str "counts" 575), (.str "thing" 576)] 0), #[]⟩) :: (nat_lit 312, ⟨(.type "tuple"), none, (.seq #[] 0), #[]⟩) :: (nat_lit 314, ⟨(.type "code"), none, (.fields #[(.str "number_by_parts" 571), (.str "SplitFamily.number_by_parts" 572), (.str "/claim/cut.py" 573), (.int 104 0), (.int 3 0), (.int 0 0), (.int 0 0), (.int 3 0), (.ref 309), (.bool true), (.int 181 0), (.ref 310), .none, (.ref 311), (.ref 312), (.ref 313), (.int 577 0), (.int 104 0), (.str "/claim/cut.py" 578)]), #[]⟩) :: (nat_lit 315, ⟨(.type "function"), none, (.func (fnOf "number_by_parts" "SplitFamily.number_by_parts" (defArgs (inClass (top 18) 7)) (defBody (inClass (top 18) 7)) (defScope (inClass (top 18) 7)) .none .none .none (.str "countkin.kin" 386) none (.ref 314) .none)), #[]⟩) :: (nat_lit 316, ⟨(.type "tuple"), none, (.seq #[] 0), #[]⟩) :: (nat_lit 318, ⟨(.type "tuple"), none, (.seq #[(.str "self" 583), (.str "counts" 584), (.str "size" 585), (.str "number" 586), (.str "left_size" 587), (.str "rest" 588), (.str "right_size" 589), (.str "left" 590), (.str "right" 591)] 0), #[]⟩) :: (nat_lit 319, ⟨(.type "tuple"), none, (.seq #[] 0), #[]⟩) :: (nat_lit 321, ⟨(.type "code"), none, (.fields #[(.str "thing_by_parts" 580), (.str "SplitFamily.thing_by_parts" 581), (.str "/claim/cut.py" 582), (.int 107 0), (.int 4 0), (.int 0 0), (.int 0 0), (.int 3 0), (.ref 316), (.bool true), (.int 181 0), (.ref 317), .none, (.ref 318), (.ref 319), (.ref 320), (.int 592 0), (.int 107 0), (.str "/claim/cut.py" 593)]), #[]⟩) :: (nat_lit 322, ⟨(.type "function"), none, (.func (fnOf "thing_by_parts" "SplitFamily.thing_by_parts" (defArgs (inClass (top 18) 8)) (defBody (inClass (top 18) 8)) (defScope (inClass (top 18) 8)) .none .none .none (.str "countkin.kin" 386) none (.ref 321) .none)), #[]⟩) :: (nat_lit 323, ⟨(.type "tuple"), none, (.seq #[] 0), #[]⟩) :: (nat_lit 324, ⟨(.type "dict"), none, (.dict #[⟨PyData.keyHash P "__module__", .str "__module__" 509, (.str "countkin.kin" 386)⟩, ⟨PyData.keyHash P "__firstlineno__", .str "__firstlineno__" 513, (.int 81 512)⟩, ⟨PyData.keyHash P "__init__", .str "__init__" 521, (.ref 266)⟩, ⟨PyData.keyHash P "bare", .str "bare" 528, (.ref 273)⟩, ⟨PyData.keyHash P "parted", .str "parted" 536, (.ref 280)⟩, ⟨PyData.keyHash P "joined", .str "joined" 545, (.ref 287)⟩, ⟨PyData.keyHash P "unchecked_many", .str "unchecked_many" 553, (.ref 294)⟩, ⟨PyData.keyHash P "unchecked_number", .str "unchecked_number" 561, (.ref 301)⟩, ⟨PyData.keyHash P "unchecked_thing", .str "unchecked_thing" 570, (.ref 308)⟩, ⟨PyData.keyHash P "number_by_parts", .str "number_by_parts" 579, (.ref 315)⟩, ⟨PyData.keyHash P "thing_by_parts", .str "thing_by_parts" 594, (.ref 322)⟩, ⟨PyData.keyHash P "__static_attributes__", .str "__static_attributes__" 595, (.ref 323)⟩, ⟨PyData.keyHash P "__doc__", .str "__doc__" 596, .none⟩] 2), #[]⟩) :: (nat_lit 325, ⟨(.type "type"), none, (.cls ⟨"SplitFamily", [(.ref 248)], [(.ref 325), (.ref 248), (.type "object")], 324, "SplitFamily", true, [], [(.ref 408), (.ref 456), (.ref 513), (.ref 574)], false, none, false⟩), #[(some (.ref 253)), none, (some (.str "SplitFamily" 502)), (some (.str "SplitFamily" 510)), (some (.builtin "object.__new__")), (some (.bool true))]⟩) :: (nat_lit 328, ⟨(.type "tuple"), none, (.seq #[] 0), #[]⟩) :: (nat_lit 331, ⟨(.type "code"), none, (.fields #[(.str "raised_by" 601), (.str "raised_by" 602), (.str "/claim/cut.py" 603), (.int 120 0), (.int 2 0), (.int 0 0), (.int 0 0), (.int 3 0), (.ref 328), (.bool true), (.int 181 0), (.ref 329), .none, .none, .none, (.ref 330), (.int 604 0), (.int 120 0), (.str "/claim/cut.py" 605)]), #[]⟩) :: (nat_lit 332, ⟨(.type "function"), none, (.func (fnOf "raised_by" "raised_by" (defArgs (top 20)) (defBody (top 20)) (defScope (top 20)) .none .none .none (.str "countkin.common" 599) none (.ref 331) .none)), #[]⟩) :: (nat_lit 333, ⟨(.type "tuple"), none, (.seq #[] 0), #[]⟩) :: (nat_lit 336, ⟨(.type "code"), none, (.fields #[(.str "pairs_raised_by" 607), (.str "pairs_raised_by" 608), (.str "/claim/cut.py" 609), (.int 122 0), (.int 2 0), (.int 0 0), (.int 0 0), (.int 3 0), (.ref 333), (.bool true), (.int 181 0), (.ref 334), .none, .none, .none, (.ref 335), (.int 610 0), (.int 122 0), (.str "/claim/cut.py" 611)]), #[]⟩) :: (nat_lit 337, ⟨(.type "function"), none, (.func (fnOf "pairs_raised_by" "pairs_raised_by" (defArgs (top 21)) (defBody (top 21)) (defScope (top 21)) .none .none .none (.str "countkin.common" 599) none (.ref 336) .none)), #[]⟩) :: (nat_lit 338, ⟨(.type "tuple"), none, (.seq #[] 0), #[]⟩) :: (nat_lit 340, ⟨(.type "tuple"), none, (.seq #[(.str "rows" 616), (.str "found" 617), (.str "row" 618)] 0), #[]⟩) :: (nat_lit 341, ⟨(.type "tuple"), none, (.seq #[] 0), #[]⟩) :: (nat_lit 343, ⟨(.type "code"), none, (.fields #[(.str "flat" 613), (.str "flat" 614), (.str "/claim/cut.py" 615), (.int 124 0), (.int 1 0), (.int 0 0), (.int 0 0), (.int 3 0), (.ref 338), (.bool true), (.int 181 0), (.ref 339), .none, (.ref 340), (.ref 341), (.ref 342), (.int 619 0), (.int 124 0), (.str "/claim/cut.py" 620)]), #[]⟩) :: (nat_lit 344, ⟨(.type "function"), none, (.func (fnOf "flat" "flat" (defArgs (top 22)) (defBody (top 22)) (defScope (top 22)) .none .none .none (.str "countkin.common" 599) none (.ref 343) .none)), #[]⟩) :: (nat_lit 345, ⟨(.type "tuple"), none, (.seq #[] 0), #[]⟩) :: (nat_lit 347, ⟨(.type "tuple"), none, (.seq #[(.str "numbers" 625)] 0), #[]⟩) :: (nat_lit 348, ⟨(.type "tuple"), none, (.seq #[] 0), #[]⟩) :: (nat_lit 350, ⟨(.type "code"), none, (.fields #[(.str "each_once" 622), (.str "each_once" 623), (.str "/claim/cut.py" 624), (.int 129 0), (.int 1 0), (.int 0 0), (.int 0 0), (.int 3 0), (.ref 345), (.bool true), (.int 181 0), (.ref 346), .none, (.ref 347), (.ref 348), (.ref 349), (.int 626 0), (.int 129 0), (.str "/claim/cut.py" 627)]), #[]⟩) :: (nat_lit 351, ⟨(.type "function"), none, (.func (fnOf "each_once" "each_once" (defArgs (top 23)) (defBody (top 23)) (defScope (top 23)) .none .none .none (.str "countkin.common" 599) none (.ref 350) .none)), #[]⟩) :: (nat_lit 352, ⟨(.type "tuple"), none, (.seq #[] 0), #[]⟩) :: (nat_lit 354, ⟨(.type "tuple"), none, (.seq #[(.str "pairs" 632), (.str "a" 633), (.str "b" 634), (.str "c" 635), (.str "d" 636)] 0), #[]⟩) :: (nat_lit 355, ⟨(.type "tuple"), none, (.seq #[] 0), #[]⟩) :: (nat_lit 357, ⟨(.type "code"), none, (.fields #[(.str "any_cross" 629), (.str "any_cross" 630), (.str "/claim/cut.py" 631), (.int 131 0), (.int 1 0), (.int 0 0), (.int 0 0), (.int 3 0), (.ref 352), (.bool true), (.int 181 0), (.ref 353), .none, (.ref 354), (.ref 355), (.ref 356), (.int 637 0), (.int 131 0), (.str "/claim/cut.py" 638)]), #[]⟩) :: (nat_lit 358, ⟨(.type "function"), none, (.func (fnOf "any_cross" "any_cross" (defArgs (top 24)) (defBody (top 24)) (defScope (top 24)) .none .none .none (.str "countkin.common" 599) none (.ref 357) .none)), #[]⟩) :: (nat_lit 359, ⟨(.type "tuple"), none, (.seq #[(.ref 325)] 0), #[]⟩) :: (nat_lit 366, ⟨(.type "tuple"), none, (.seq #[] 0), #[]⟩) :: (nat_lit 368, ⟨(.type "tuple"), none, (.seq #[(.str "self" 657)] 0), #[]⟩) :: (nat_lit 369, ⟨(.type "tuple"), none, (.seq #[] 0), #[]⟩) :: (nat_lit 371, ⟨(.type "code"), none, (.fields #[(.str "__init__" 654), (.str "Bows.__init__" 655), (.str "/claim/cut.py" 656), (.int 140 0), (.int 1 0), (.int 0 0), (.int 0 0), (.int 3 0), (.ref 366), (.bool true), (.int 181 0), (.ref 367), .none, (.ref 368), (.ref 369), (.ref 370), (.int 658 0), (.int 140 0), (.str "/claim/cut.py" 659)]), #[]⟩) :: (nat_lit 372, ⟨(.type "function"), none, (.func (fnOf "__init__" "Bows.__init__" (defArgs (inClass (top 26) 0)) (defBody (inClass (top 26) 0)) (defScope (inClass (top 26) 0)) .none .none .none (.str "countkin.bends" 640) none (.ref 371) .none)), #[]⟩) :: (nat_lit 373, ⟨(.type "tuple"), none, (.seq #[] 0), #[]⟩) :: (nat_lit 375, ⟨(.type "tuple"), none, (.seq #[(.str "self" 664), (.str "thing" 665)] 0), #[]⟩) :: (nat_lit 376, ⟨(.type "tuple"), none, (.seq #[] 0), #[]⟩) :: (nat_lit 378, ⟨(.type "code"), none, (.fields #[(.str "size_of" 661), (.str "Bows.size_of" 662), (.str "/claim/cut.py" 663), (.int 143 0), (.int 2 0), (.int 0 0), (.int 0 0), (.int 3 0), (.ref 373), (.bool true), (.int 181 0), (.ref 374), .none, (.ref 375), (.ref 376), (.ref 377), (.int 666 0), (.int 143 0), (.str "/claim/cut.py" 667)]), #[]⟩) :: (nat_lit 379, ⟨(.type "function"), none, (.func (fnOf "size_of" "Bows.size_of" (defArgs (inClass (top 26) 1)) (defBody (inClass (top 26) 1)) (defScope (inClass (top 26) 1)) .none .none .none (.str "countkin.bends" 640) none (.ref 378) .none)), #[]⟩) :: (nat_lit 380, ⟨(.type "tuple"), none, (.seq #[] 0), #[]⟩) :: (nat_lit 383, ⟨(.type "code"), none, (.fields #[(.str "is_one" 669), (.str "Bows.is_one" 670), (.str "/claim/cut.py" 671), (.int 146 0), (.int 2 0), (.int 0 0), (.int 0 0), (.int 3 0), (.ref 380), (.bool true), (.int 181 0), (.ref 381), .none, .none, .none, (.ref 382), (.int 672 0), (.int 146 0), (.str "/claim/cut.py" 673)]), #[]⟩) :: (nat_lit 384, ⟨(.type "function"), none, (.func (fnOf "is_one" "Bows.is_one" (defArgs (inClass (top 26) 2)) (defBody (inClass (top 26) 2)) (defScope (inClass (top 26) 2)) .none .none .none (.str "countkin.bends" 640) none (.ref 383) .none)), #[]⟩) :: (nat_lit 385, ⟨(.type "tuple"), none, (.seq #[] 0), #[]⟩) :: (nat_lit 387, ⟨(.type "tuple"), none, (.seq #[(.str "self" 678)] 0), #[]⟩) :: (nat_lit 388, ⟨(.type "tuple"), none, (.seq #[] 0), #[]⟩) :: (nat_lit 390, ⟨(.type "code"), none, (.fields #[(.str "bare" 675), (.str "Bows.bare" 676), (.str "/claim/cut.py" 677), (.int 151 0), (.int 1 0), (.int 0 0), (.int 0 0), (.int 3 0), (.ref 385), (.bool true), (.int 181 0), (.ref 386), .none, (.ref 387), (.ref 388), (.ref 389), (.int 679 0), (.int 151 0), (.str "/claim/cut.py" 680)]), #[]⟩) :: (nat_lit 391, ⟨(.type "function"), none, (.func (fnOf "bare" "Bows.bare" (defArgs (inClass (top 26) 3)) (defBody (inClass (top 26) 3)) (defScope (inClass (top 26) 3)) .none .none .none (.str "countkin.bends" 640) none (.ref 390) .none)), #[]⟩) :: (nat_lit 392, ⟨(.type "tuple"), none, (.seq #[] 0), #[]⟩) :: (nat_lit 394, ⟨(.type "tuple"), none, (.seq #[(.str "self" 685), (.str "thing" 686)] 0), #[]⟩) :: (nat_lit 395, ⟨(.type "tuple"), none, (.seq #[] 0), #[]⟩) :: (nat_lit 397, ⟨(.type "code"), none, (.fields #[(.str "parted" 682), (.str "Bows.parted" 683), (.str "/claim/cut.py" 684), (.int 154 0), (.int 2 0), (.int 0 0), (.int 0 0), (.int 3 0), (.ref 392), (.bool true), (.int 181 0), (.ref 393), .none, (.ref 394), (.ref 395), (.ref 396), (.int 687 0), (.int 154 0), (.str "/claim/cut.py" 688)]), #[]⟩) :: (nat_lit 398, ⟨(.type "function"), none, (.func (fnOf "parted" "Bows.parted" (defArgs (inClass (top 26) 4)) (defBody (inClass (top 26) 4)) (defScope (inClass (top 26) 4)) .none .none .none (.str "countkin.bends" 640) none (.ref 397) .none)), #[]⟩) :: (nat_lit 399, ⟨(.type "tuple"), none, (.seq #[] 0), #[]⟩) :: (nat_lit 401, ⟨(.type "tuple"), none, (.seq #[(.str "self" 693), (.str "left" 694), (.str "right" 695), (.str "end" 696)] 0), #[]⟩) :: (nat_lit 402, ⟨(.type "tuple"), none, (.seq #[] 0), #[]⟩) :: (nat_lit 404, ⟨(.type "code"), none, (.fields #[(.str "joined" 690), (.str "Bows.joined" 691), (.str "/claim/cut.py" 692), (.int 157 0), (.int 3 0), (.int 0 0), (.int 0 0), (.int 3 0), (.ref 399), (.bool true), (.int 181 0), (.ref 400), .none, (.ref 401), (.ref 402), (.ref 403), (.int 697 0), (.int 157 0), (.str "/claim/cut.py" 698)]), #[]⟩) :: (nat_lit 405, ⟨(.type "function"), none, (.func (fnOf "joined" "Bows.joined" (defArgs (inClass (top 26) 5)) (defBody (inClass (top 26) 5)) (defScope (inClass (top 26) 5)) .none .none .none (.str "countkin.bends" 640) none (.ref 404) .none)), #[]⟩) :: (nat_lit 406, ⟨(.type "tuple"), none, (.seq #[] 0), #[]⟩) :: (nat_lit 407, ⟨(.type "dict"), none, (.dict #[⟨PyData.keyHash P "__module__", .str "__module__" 649, (.str "countkin.bends" 640)⟩, ⟨PyData.keyHash P "__firstlineno__", .str "__firstlineno__" 653, (.int 138 652)⟩, ⟨PyData.keyHash P "__init__", .str "__init__" 660, (.ref 372)⟩, ⟨PyData.keyHash P "size_of", .str "size_of" 668, (.ref 379)⟩, ⟨PyData.keyHash P "is_one", .str "is_one" 674, (.ref 384)⟩, ⟨PyData.keyHash P "bare", .str "bare" 681, (.ref 391)⟩, ⟨PyData.keyHash P "parted", .str "parted" 689, (.ref 398)⟩, ⟨PyData.keyHash P "joined", .str "joined" 699, (.ref 405)⟩, ⟨PyData.keyHash P "__static_attributes__", .str "__static_attributes__" 700, (.ref 406)⟩, ⟨PyData.keyHash P "__doc__", .str "__doc__" 701, .none⟩] 2), #[]⟩) :: (nat_lit 408, ⟨(.type "type"), none, (.cls ⟨"Bows", [(.ref 325)], [(.ref 408), (.ref 325), (.ref 248), (.type "object")], 407, "Bows", true, [], [], false, none, false⟩), #[(some (.ref 359)), none, (some (.str "Bows" 642)), (some (.str "Bows" 650)), (some (.builtin "object.__new__")), (some (.bool true))]⟩) :: (nat_lit 411, ⟨(.type "tuple"), none, (.seq #[(.ref 325)] 0), #[]⟩) :: (nat_lit 418, ⟨(.type "tuple"), none, (.seq #[] 0), #[]⟩) :: (nat_lit 420, ⟨(.type "tuple"), none, (.seq #[(.str "self" 719)] 0), #[]⟩) :: (nat_lit 421, ⟨(.type "tuple"), none, (.seq #[] 0), #[]⟩) :: (nat_lit 423, ⟨(.type "code"), none, (.fields #[(.str "__init__" 716), (.str "Rooms.__init__" 717), (.str "/claim/cut.py" 718), (.int 162 0), (.int 1 0), (.int 0 0), (.int 0 0), (.int 3 0), (.ref 418), (.bool true), (.int 181 0), (.ref 419), .none, (.ref 420), (.ref 421), (.ref 422), (.int 720 0), (.int 162 0), (.str "/claim/cut.py" 721)]), #[]⟩) :: (nat_lit 424, ⟨(.type "function"), none, (.func (fnOf "__init__" "Rooms.__init__" (defArgs (inClass (top 27) 0)) (defBody (inClass (top 27) 0)) (defScope (inClass (top 27) 0)) .none .none .none (.str "countkin.bends" 640) none (.ref 423) .none)), #[]⟩) :: (nat_lit 425, ⟨(.type "tuple"), none, (.seq #[] 0), #[]⟩) :: (nat_lit 428, ⟨(.type "code"), none, (.fields #[(.str "size_of" 723), (.str "Rooms.size_of" 724), (.str "/claim/cut.py" 725), (.int 165 0), (.int 2 0), (.int 0 0), (.int 0 0), (.int 3 0), (.ref 425), (.bool true), (.int 181 0), (.ref 426), .none, .none, .none, (.ref 427), (.int 726 0), (.int 165 0), (.str "/claim/cut.py" 727)]), #[]⟩) :: (nat_lit 429, ⟨(.type "function"), none, (.func (fnOf "size_of" "Rooms.size_of" (defArgs (inClass (top 27) 1)) (defBody (inClass (top 27) 1)) (defScope (inClass (top 27) 1)) .none .none .none (.str "countkin.bends" 640) none (.ref 428) .none)), #[]⟩) :: (nat_lit 430, ⟨(.type "tuple"), none, (.seq #[] 0), #[]⟩) :: (nat_lit 433, ⟨(.type "code"), none, (.fields #[(.str "is_one" 729), (.str "Rooms.is_one" 730), (.str "/claim/cut.py" 731), (.int 168 0), (.int 2 0), (.int 0 0), (.int 0 0), (.int 3 0), (.ref 430), (.bool true), (.int 181 0), (.ref 431), .none, .none, .none, (.ref 432), (.int 732 0), (.int 168 0), (.str "/claim/cut.py" 733)]), #[]⟩) :: (nat_lit 434, ⟨(.type "function"), none, (.func (fnOf "is_one" "Rooms.is_one" (defArgs (inClass (top 27) 2)) (defBody (inClass (top 27) 2)) (defScope (inClass (top 27) 2)) .none .none .none (.str "countkin.bends" 640) none (.ref 433) .none)), #[]⟩) :: (nat_lit 435, ⟨(.type "tuple"), none, (.seq #[] 0), #[]⟩) :: (nat_lit 437, ⟨(.type "tuple"), none, (.seq #[(.str "self" 738)] 0), #[]⟩) :: (nat_lit 438, ⟨(.type "tuple"), none, (.seq #[] 0), #[]⟩) :: (nat_lit 440, ⟨(.type "code"), none, (.fields #[(.str "bare" 735), (.str "Rooms.bare" 736), (.str "/claim/cut.py" 737), (.int 173 0), (.int 1 0), (.int 0 0), (.int 0 0), (.int 3 0), (.ref 435), (.bool true), (.int 181 0), (.ref 436), .none, (.ref 437), (.ref 438), (.ref 439), (.int 739 0), (.int 173 0), (.str "/claim/cut.py" 740)]), #[]⟩) :: (nat_lit 441, ⟨(.type "function"), none, (.func (fnOf "bare" "Rooms.bare" (defArgs (inClass (top 27) 3)) (defBody (inClass (top 27) 3)) (defScope (inClass (top 27) 3)) .none .none .none (.str "countkin.bends" 640) none (.ref 440) .none)), #[]⟩) :: (nat_lit 442, ⟨(.type "tuple"), none, (.seq #[] 0), #[]⟩) :: (nat_lit 444, ⟨(.type "tuple"), none, (.seq #[(.str "self" 745), (.str "thing" 746)] 0), #[]⟩) :: (nat_lit 445, ⟨(.type "tuple"), none, (.seq #[] 0), #[]⟩) :: (nat_lit 447, ⟨(.type "code"), none, (.fields #[(.str "parted" 742), (.str "Rooms.parted" 743), (.str "/claim/cut.py" 744), (.int 176 0), (.int 2 0), (.int 0 0), (.int 0 0), (.int 3 0), (.ref 442), (.bool true), (.int 181 0), (.ref 443), .none, (.ref 444), (.ref 445), (.ref 446), (.int 747 0), (.int 176 0), (.str "/claim/cut.py" 748)]), #[]⟩) :: (nat_lit 448, ⟨(.type "function"), none, (.func (fnOf "parted" "Rooms.parted" (defArgs (inClass (top 27) 4)) (defBody (inClass (top 27) 4)) (defScope (inClass (top 27) 4)) .none .none .none (.str "countkin.bends" 640) none (.ref 447) .none)), #[]⟩) :: (nat_lit 449, ⟨(.type "tuple"), none, (.seq #[] 0), #[]⟩) :: (nat_lit 452, ⟨(.type "code"), none, (.fields #[(.str "joined" 750), (.str "Rooms.joined" 751), (.str "/claim/cut.py" 752), (.int 179 0), (.int 3 0), (.int 0 0), (.int 0 0), (.int 3 0), (.ref 449), (.bool true), (.int 181 0), (.ref 450), .none, .none, .none, (.ref 451), (.int 753 0), (.int 179 0), (.str "/claim/cut.py" 754)]), #[]⟩) :: (nat_lit 453, ⟨(.type "function"), none, (.func (fnOf "joined" "Rooms.joined" (defArgs (inClass (top 27) 5)) (defBody (inClass (top 27) 5)) (defScope (inClass (top 27) 5)) .none .none .none (.str "countkin.bends" 640) none (.ref 452) .none)), #[]⟩) :: (nat_lit 454, ⟨(.type "tuple"), none, (.seq #[] 0), #[]⟩) :: (nat_lit 455, ⟨(.type "dict"), none, (.dict #[⟨PyData.keyHash P "__module__", .str "__module__" 711, (.str "countkin.bends" 640)⟩, ⟨PyData.keyHash P "__firstlineno__", .str "__firstlineno__" 715, (.int 160 714)⟩, ⟨PyData.keyHash P "__init__", .str "__init__" 722, (.ref 424)⟩, ⟨PyData.keyHash P "size_of", .str "size_of" 728, (.ref 429)⟩, ⟨PyData.keyHash P "is_one", .str "is_one" 734, (.ref 434)⟩, ⟨PyData.keyHash P "bare", .str "bare" 741, (.ref 441)⟩, ⟨PyData.keyHash P "parted", .str "parted" 749, (.ref 448)⟩, ⟨PyData.keyHash P "joined", .str "joined" 755, (.ref 453)⟩, ⟨PyData.keyHash P "__static_attributes__", .str "__static_attributes__" 756, (.ref 454)⟩, ⟨PyData.keyHash P "__doc__", .str "__doc__" 757, .none⟩] 2), #[]⟩) :: (nat_lit 456, ⟨(.type "type"), none, (.cls ⟨"Rooms", [(.ref 325)], [(.ref 456), (.ref 325), (.ref 248), (.type "object")], 455, "Rooms", true, [], [], false, none, false⟩), #[(some (.ref 411)), none, (some (.str "Rooms" 704)), (some (.str "Rooms" 712)), (some (.builtin "object.__new__")), (some (.bool true))]⟩) :: (nat_lit 459, ⟨(.type "tuple"), none, (.seq #[] 0), #[]⟩) :: (nat_lit 462, ⟨(.type "code"), none, (.fields #[(.str "neighbours" 760), (.str "neighbours" 761), (.str "/claim/cut.py" 762), (.int 189 0), (.int 1 0), (.int 0 0), (.int 0 0), (.int 3 0), (.ref 459), (.bool true), (.int 181 0), (.ref 460), .none, .none, .none, (.ref 461), (.int 763 0), (.int 189 0), (.str "/claim/cut.py" 764)]), #[]⟩) :: (nat_lit 463, ⟨(.type "function"), none, (.func (fnOf "neighbours" "neighbours" (defArgs (top 28)) (defBody (top 28)) (defScope (top 28)) .none .none .none (.str "countkin.bends" 640) none (.ref 462) .none)), #[]⟩) :: (nat_lit 464, ⟨(.type "tuple"), none, (.seq #[(.ref 325)] 0), #[]⟩) :: (nat_lit 471, ⟨(.type "tuple"), none, (.seq #[] 0), #[]⟩) :: (nat_lit 473, ⟨(.type "tuple"), none, (.seq #[(.str "self" 783)] 0), #[]⟩) :: (nat_lit 474, ⟨(.type "tuple"), none, (.seq #[] 0), #[]⟩) :: (nat_lit 476, ⟨(.type "code"), none, (.fields #[(.str "__init__" 780), (.str "Floors.__init__" 781), (.str "/claim/cut.py" 782), (.int 194 0), (.int 1 0), (.int 0 0), (.int 0 0), (.int 3 0), (.ref 471), (.bool true), (.int 181 0), (.ref 472), .none, (.ref 473), (.ref 474), (.ref 475), (.int 784 0), (.int 194 0), (.str "/claim/cut.py" 785)]), #[]⟩) :: (nat_lit 477, ⟨(.type "function"), none, (.func (fnOf "__init__" "Floors.__init__" (defArgs (inClass (top 30) 0)) (defBody (inClass (top 30) 0)) (defScope (inClass (top 30) 0)) .none .none .none (.str "countkin.floors" 766) none (.ref 476) .none)), #[]⟩) :: (nat_lit 478, ⟨(.type "tuple"), none, (.seq #[] 0), #[]⟩) :: (nat_lit 480, ⟨(.type "tuple"), none, (.seq #[(.str "self" 790), (.str "thing" 791)] 0), #[]⟩) :: (nat_lit 481, ⟨(.type "tuple"), none, (.seq #[] 0), #[]⟩) :: (nat_lit 483, ⟨(.type "code"), none, (.fields #[(.str "size_of" 787), (.str "Floors.size_of" 788), (.str "/claim/cut.py" 789), (.int 197 0), (.int 2 0), (.int 0 0), (.int 0 0), (.int 3 0), (.ref 478), (.bool true), (.int 181 0), (.ref 479), .none, (.ref 480), (.ref 481), (.ref 482), (.int 792 0), (.int 197 0), (.str "/claim/cut.py" 793)]), #[]⟩) :: (nat_lit 484, ⟨(.type "function"), none, (.func (fnOf "size_of" "Floors.size_of" (defArgs (inClass (top 30) 1)) (defBody (inClass (top 30) 1)) (defScope (inClass (top 30) 1)) .none .none .none (.str "countkin.floors" 766) none (.ref 483) .none)), #[]⟩) :: (nat_lit 485, ⟨(.type "tuple"), none, (.seq #[] 0), #[]⟩) :: (nat_lit 488, ⟨(.type "code"), none, (.fields #[(.str "is_one" 795), (.str "Floors.is_one" 796), (.str "/claim/cut.py" 797), (.int 200 0), (.int 2 0), (.int 0 0), (.int 0 0), (.int 3 0), (.ref 485), (.bool true), (.int 181 0), (.ref 486), .none, .none, .none, (.ref 487), (.int 798 0), (.int 200 0), (.str "/claim/cut.py" 799)]), #[]⟩) :: (nat_lit 489, ⟨(.type "function"), none, (.func (fnOf "is_one" "Floors.is_one" (defArgs (inClass (top 30) 2)) (defBody (inClass (top 30) 2)) (defScope (inClass (top 30) 2)) .none .none .none (.str "countkin.floors" 766) none (.ref 488) .none)), #[]⟩) :: (nat_lit 490, ⟨(.type "tuple"), none, (.seq #[] 0), #[]⟩) :: (nat_lit 492, ⟨(.type "tuple"), none, (.seq #[(.str "self" 804)] 0), #[]⟩) :: (nat_lit 493, ⟨(.type "tuple"), none, (.seq #[] 0), #[]⟩) :: (nat_lit 495, ⟨(.type "code"), none, (.fields #[(.str "bare" 801), (.str "Floors.bare" 802), (.str "/claim/cut.py" 803), (.int 209 0), (.int 1 0), (.int 0 0), (.int 0 0), (.int 3 0), (.ref 490), (.bool true), (.int 181 0), (.ref 491), .none, (.ref 492), (.ref 493), (.ref 494), (.int 805 0), (.int 209 0), (.str "/claim/cut.py" 806)]), #[]⟩) :: (nat_lit 496, ⟨(.type "function"), none, (.func (fnOf "bare" "Floors.bare" (defArgs (inClass (top 30) 3)) (defBody (inClass (top 30) 3)) (defScope (inClass (top 30) 3)) .none .none .none (.str "countkin.floors" 766) none (.ref 495) .none)), #[]⟩) :: (nat_lit 497, ⟨(.type "tuple"), none, (.seq #[] 0), #[]⟩) :: (nat_lit 499, ⟨(.type "tuple"), none, (.seq #[(.str "self" 811), (.str "thing" 812)] 0), #[]⟩) :: (nat_lit 500, ⟨(.type "tuple"), none, (.seq #[] 0), #[]⟩) :: (nat_lit 502, ⟨(.type "code"), none, (.fields #[(.str "parted" 808), (.str "Floors.parted" 809), (.str "/claim/cut.py" 810), (.int 212 0), (.int 2 0), (.int 0 0), (.int 0 0), (.int 3 0), (.ref 497), (.bool true), (.int 181 0), (.ref 498), .none, (.ref 499), (.ref 500), (.ref 501), (.int 813 0), (.int 212 0), (.str "/claim/cut.py" 814)]), #[]⟩) :: (nat_lit 503, ⟨(.type "function"), none, (.func (fnOf "parted" "Floors.parted" (defArgs (inClass (top 30) 4)) (defBody (inClass (top 30) 4)) (defScope (inClass (top 30) 4)) .none .none .none (.str "countkin.floors" 766) none (.ref 502) .none)), #[]⟩) :: (nat_lit 504, ⟨(.type "tuple"), none, (.seq #[] 0), #[]⟩) :: (nat_lit 506, ⟨(.type "tuple"), none, (.seq #[(.str "self" 819), (.str "left" 820), (.str "right" 821), (.str "third" 822), (.str "last" 823), (.str "cuts" 824)] 0), #[]⟩) :: (nat_lit 507, ⟨(.type "tuple"), none, (.seq #[] 0), #[]⟩) :: (nat_lit 509, ⟨(.type "code"), none, (.fields #[(.str "joined" 816), (.str "Floors.joined" 817), (.str "/claim/cut.py" 818), (.int 215 0), (.int 3 0), (.int 0 0), (.int 0 0), (.int 3 0), (.ref 504), (.bool true), (.int 181 0), (.ref 505), .none, (.ref 506), (.ref 507), (.ref 508), (.int 825 0), (.int 215 0), (.str "/claim/cut.py" 826)]), #[]⟩) :: (nat_lit 510, ⟨(.type "function"), none, (.func (fnOf "joined" "Floors.joined" (defArgs (inClass (top 30) 5)) (defBody (inClass (top 30) 5)) (defScope (inClass (top 30) 5)) .none .none .none (.str "countkin.floors" 766) none (.ref 509) .none)), #[]⟩) :: (nat_lit 511, ⟨(.type "tuple"), none, (.seq #[] 0), #[]⟩) :: (nat_lit 512, ⟨(.type "dict"), none, (.dict #[⟨PyData.keyHash P "__module__", .str "__module__" 775, (.str "countkin.floors" 766)⟩, ⟨PyData.keyHash P "__firstlineno__", .str "__firstlineno__" 779, (.int 192 778)⟩, ⟨PyData.keyHash P "__init__", .str "__init__" 786, (.ref 477)⟩, ⟨PyData.keyHash P "size_of", .str "size_of" 794, (.ref 484)⟩, ⟨PyData.keyHash P "is_one", .str "is_one" 800, (.ref 489)⟩, ⟨PyData.keyHash P "bare", .str "bare" 807, (.ref 496)⟩, ⟨PyData.keyHash P "parted", .str "parted" 815, (.ref 503)⟩, ⟨PyData.keyHash P "joined", .str "joined" 827, (.ref 510)⟩, ⟨PyData.keyHash P "__static_attributes__", .str "__static_attributes__" 828, (.ref 511)⟩, ⟨PyData.keyHash P "__doc__", .str "__doc__" 829, .none⟩] 2), #[]⟩) :: (nat_lit 513, ⟨(.type "type"), none, (.cls ⟨"Floors", [(.ref 325)], [(.ref 513), (.ref 325), (.ref 248), (.type "object")], 512, "Floors", true, [], [], false, none, false⟩), #[(some (.ref 464)), none, (some (.str "Floors" 768)), (some (.str "Floors" 776)), (some (.builtin "object.__new__")), (some (.bool true))]⟩) :: (nat_lit 516, ⟨(.type "tuple"), none, (.seq #[] 0), #[]⟩) :: (nat_lit 518, ⟨(.type "tuple"), none, (.seq #[(.str "corners" 835), (.str "a" 836), (.str "b" 837)] 0), #[]⟩) :: (nat_lit 519, ⟨(.type "tuple"), none, (.seq #[] 0), #[]⟩) :: (nat_lit 521, ⟨(.type "code"), none, (.fields #[(.str "may_be_cut" 832), (.str "may_be_cut" 833), (.str "/claim/cut.py" 834), (.int 224 0), (.int 3 0), (.int 0 0), (.int 0 0), (.int 3 0), (.ref 516), (.bool true), (.int 181 0), (.ref 517), .none, (.ref 518), (.ref 519), (.ref 520), (.int 838 0), (.int 224 0), (.str "/claim/cut.py" 839)]), #[]⟩) :: (nat_lit 522, ⟨(.type "function"), none, (.func (fnOf "may_be_cut" "may_be_cut" (defArgs (top 31)) (defBody (top 31)) (defScope (top 31)) .none .none .none (.str "countkin.floors" 766) none (.ref 521) .none)), #[]⟩) :: (nat_lit 523, ⟨(.type "tuple"), none, (.seq #[(.ref 325)] 0), #[]⟩) :: (nat_lit 530, ⟨(.type "tuple"), none, (.seq #[] 0), #[]⟩) :: (nat_lit 532, ⟨(.type "tuple"), none, (.seq #[(.str "self" 858)] 0), #[]⟩) :: (nat_lit 533, ⟨(.type "tuple"), none, (.seq #[] 0), #[]⟩) :: (nat_lit 535, ⟨(.type "code"), none, (.fields #[(.str "__init__" 855), (.str "Turns.__init__" 856), (.str "/claim/cut.py" 857), (.int 229 0), (.int 1 0), (.int 0 0), (.int 0 0), (.int 3 0), (.ref 530), (.bool true), (.int 181 0), (.ref 531), .none, (.ref 532), (.ref 533), (.ref 534), (.int 859 0), (.int 229 0), (.str "/claim/cut.py" 860)]), #[]⟩) :: (nat_lit 536, ⟨(.type "function"), none, (.func (fnOf "__init__" "Turns.__init__" (defArgs (inClass (top 33) 0)) (defBody (inClass (top 33) 0)) (defScope (inClass (top 33) 0)) .none .none .none (.str "countkin.rows" 841) none (.ref 535) .none)), #[]⟩) :: (nat_lit 537, ⟨(.type "tuple"), none, (.seq #[] 0), #[]⟩) :: (nat_lit 539, ⟨(.type "tuple"), none, (.seq #[(.str "self" 865), (.str "thing" 866)] 0), #[]⟩) :: (nat_lit 540, ⟨(.type "tuple"), none, (.seq #[] 0), #[]⟩) :: (nat_lit 542, ⟨(.type "code"), none, (.fields #[(.str "size_of" 862), (.str "Turns.size_of" 863), (.str "/claim/cut.py" 864), (.int 232 0), (.int 2 0), (.int 0 0), (.int 0 0), (.int 3 0), (.ref 537), (.bool true), (.int 181 0), (.ref 538), .none, (.ref 539), (.ref 540), (.ref 541), (.int 867 0), (.int 232 0), (.str "/claim/cut.py" 868)]), #[]⟩) :: (nat_lit 543, ⟨(.type "function"), none, (.func (fnOf "size_of" "Turns.size_of" (defArgs (inClass (top 33) 1)) (defBody (inClass (top 33) 1)) (defScope (inClass (top 33) 1)) .none .none .none (.str "countkin.rows" 841) none (.ref 542) .none)), #[]⟩) :: (nat_lit 544, ⟨(.type "tuple"), none, (.seq #[] 0), #[]⟩) :: (nat_lit 546, ⟨(.type "tuple"), none, (.seq #[(.str "self" 873), (.str "thing" 874)] 0), #[]⟩) :: (nat_lit 547, ⟨(.type "tuple"), none, (.seq #[] 0), #[]⟩) :: (nat_lit 549, ⟨(.type "code"), none, (.fields #[(.str "is_one" 870), (.str "Turns.is_one" 871), (.str "/claim/cut.py" 872), (.int 235 0), (.int 2 0), (.int 0 0), (.int 0 0), (.int 3 0), (.ref 544), (.bool true), (.int 181 0), (.ref 545), .none, (.ref 546), (.ref 547), (.ref 548), (.int 875 0), (.int 235 0), (.str "/claim/cut.py" 876)]), #[]⟩) :: (nat_lit 550, ⟨(.type "function"), none, (.func (fnOf "is_one" "Turns.is_one" (defArgs (inClass (top 33) 2)) (defBody (inClass (top 33) 2)) (defScope (inClass (top 33) 2)) .none .none .none (.str "countkin.rows" 841) none (.ref 549) .none)), #[]⟩) :: (nat_lit 551, ⟨(.type "tuple"), none, (.seq #[] 0), #[]⟩) :: (nat_lit 553, ⟨(.type "tuple"), none, (.seq #[(.str "self" 881)] 0), #[]⟩) :: (nat_lit 554, ⟨(.type "tuple"), none, (.seq #[] 0), #[]⟩) :: (nat_lit 556, ⟨(.type "code"), none, (.fields #[(.str "bare" 878), (.str "Turns.bare" 879), (.str "/claim/cut.py" 880), (.int 238 0), (.int 1 0), (.int 0 0), (.int 0 0), (.int 3 0), (.ref 551), (.bool true), (.int 181 0), (.ref 552), .none, (.ref 553), (.ref 554), (.ref 555), (.int 882 0), (.int 238 0), (.str "/claim/cut.py" 883)]), #[]⟩) :: (nat_lit 557, ⟨(.type "function"), none, (.func (fnOf "bare" "Turns.bare" (defArgs (inClass (top 33) 3)) (defBody (inClass (top 33) 3)) (defScope (inClass (top 33) 3)) .none .none .none (.str "countkin.rows" 841) none (.ref 556) .none)), #[]⟩) :: (nat_lit 558, ⟨(.type "tuple"), none, (.seq #[] 0), #[]⟩) :: (nat_lit 560, ⟨(.type "tuple"), none, (.seq #[(.str "self" 888), (.str "thing" 889)] 0), #[]⟩) :: (nat_lit 561, ⟨(.type "tuple"), none, (.seq #[] 0), #[]⟩) :: (nat_lit 563, ⟨(.type "code"), none, (.fields #[(.str "parted" 885), (.str "Turns.parted" 886), (.str "/claim/cut.py" 887), (.int 241 0), (.int 2 0), (.int 0 0), (.int 0 0), (.int 3 0), (.ref 558), (.bool true), (.int 181 0), (.ref 559), .none, (.ref 560), (.ref 561), (.ref 562), (.int 890 0), (.int 241 0), (.str "/claim/cut.py" 891)]), #[]⟩) :: (nat_lit 564, ⟨(.type "function"), none, (.func (fnOf "parted" "Turns.parted" (defArgs (inClass (top 33) 4)) (defBody (inClass (top 33) 4)) (defScope (inClass (top 33) 4)) .none .none .none (.str "countkin.rows" 841) none (.ref 563) .none)), #[]⟩) :: (nat_lit 565, ⟨(.type "tuple"), none, (.seq #[] 0), #[]⟩) :: (nat_lit 567, ⟨(.type "tuple"), none, (.seq #[(.str "self" 896), (.str "left" 897), (.str "right" 898)] 0), #[]⟩) :: (nat_lit 568, ⟨(.type "tuple"), none, (.seq #[] 0), #[]⟩) :: (nat_lit 570, ⟨(.type "code"), none, (.fields #[(.str "joined" 893), (.str "Turns.joined" 894), (.str "/claim/cut.py" 895), (.int 244 0), (.int 3 0), (.int 0 0), (.int 0 0), (.int 3 0), (.ref 565), (.bool true), (.int 181 0), (.ref 566), .none, (.ref 567), (.ref 568), (.ref 569), (.int 899 0), (.int 244 0), (.str "/claim/cut.py" 900)]), #[]⟩) :: (nat_lit 571, ⟨(.type "function"), none, (.func (fnOf "joined" "Turns.joined" (defArgs (inClass (top 33) 5)) (defBody (inClass (top 33) 5)) (defScope (inClass (top 33) 5)) .none .none .none (.str "countkin.rows" 841) none (.ref 570) .none)), #[]⟩) :: (nat_lit 572, ⟨(.type "tuple"), none, (.seq #[] 0), #[]⟩) :: (nat_lit 573, ⟨(.type "dict"), none, (.dict #[⟨PyData.keyHash P "__module__", .str "__module__" 850, (.str "countkin.rows" 841)⟩, ⟨PyData.keyHash P "__firstlineno__", .str "__firstlineno__" 854, (.int 227 853)⟩, ⟨PyData.keyHash P "__init__", .str "__init__" 861, (.ref 536)⟩, ⟨PyData.keyHash P "size_of", .str "size_of" 869, (.ref 543)⟩, ⟨PyData.keyHash P "is_one", .str "is_one" 877, (.ref 550)⟩, ⟨PyData.keyHash P "bare", .str "bare" 884, (.ref 557)⟩, ⟨PyData.keyHash P "parted", .str "parted" 892, (.ref 564)⟩, ⟨PyData.keyHash P "joined", .str "joined" 901, (.ref 571)⟩, ⟨PyData.keyHash P "__static_attributes__", .str "__static_attributes__" 902, (.ref 572)⟩, ⟨PyData.keyHash P "__doc__", .str "__doc__" 903, .none⟩] 2), #[]⟩) :: (nat_lit 574, ⟨(.type "type"), none, (.cls ⟨"Turns", [(.ref 325)], [(.ref 574), (.ref 325), (.ref 248), (.type "object")], 573, "Turns", true, [], [], false, none, false⟩), #[(some (.ref 523)), none, (some (.str "Turns" 843)), (some (.str "Turns" 851)), (some (.builtin "object.__new__")), (some (.bool true))]⟩) :: (nat_lit 577, ⟨(.type "tuple"), none, (.seq #[] 0), #[]⟩) :: (nat_lit 579, ⟨(.type "tuple"), none, (.seq #[(.str "numbers" 909), (.str "stack" 910), (.str "put" 911), (.str "number" 912)] 0), #[]⟩) :: (nat_lit 580, ⟨(.type "tuple"), none, (.seq #[] 0), #[]⟩) :: (nat_lit 582, ⟨(.type "code"), none, (.fields #[(.str "comes_off_a_stack" 906), (.str "comes_off_a_stack" 907), (.str "/claim/cut.py" 908), (.int 246 0), (.int 1 0), (.int 0 0), (.int 0 0), (.int 3 0), (.ref 577), (.bool true), (.int 181 0), (.ref 578), .none, (.ref 579), (.ref 580), (.ref 581), (.int 913 0), (.int 246 0), (.str "/claim/cut.py" 914)]), #[]⟩) :: (nat_lit 583, ⟨(.type "function"), none, (.func (fnOf "comes_off_a_stack" "comes_off_a_stack" (defArgs (top 34)) (defBody (top 34)) (defScope (top 34)) .none .none .none (.str "countkin.rows" 841) none (.ref 582) .none)), #[]⟩) :: (nat_lit 584, ⟨(.type "tuple"), none, (.seq #[] 0), #[]⟩) :: (nat_lit 586, ⟨(.type "tuple"), none, (.seq #[(.str "_law_script" 921), (.str "_law_k" 922)] 0), #[]⟩) :: (nat_lit 587, ⟨(.type "tuple"), none, (.seq #[] 0), #[]⟩) :: (nat_lit 589, ⟨(.type "code"), none, (.fields #[(.str "_law_cell_at" 918), (.str "_law_cell_at" 919), (.str "/claim/cut.py" 920), (.int 257 0), (.int 2 0), (.int 0 0), (.int 0 0), (.int 3 0), (.ref 584), (.bool true), (.int 181 0), (.ref 585), .none, (.ref 586), (.ref 587), (.ref 588), (.int 923 0), (.int 257 0), (.str "/claim/cut.py" 924)]), #[]⟩) :: (nat_lit 590, ⟨(.type "function"), none, (.func (fnOf "_law_cell_at" "_law_cell_at" (defArgs (top 36)) (defBody (top 36)) (defScope (top 36)) .none .none .none (.str "law_countkin_k23_four_families_refuse" 916) none (.ref 589) .none)), #[]⟩) :: (nat_lit 591, ⟨(.type "tuple"), none, (.seq #[] 0), #[]⟩) :: (nat_lit 593, ⟨(.type "tuple"), none, (.seq #[(.str "_law_most" 929), (.str "_law_counts_here" 930), (.str "_law_k" 931)] 0), #[]⟩) :: (nat_lit 594, ⟨(.type "tuple"), none, (.seq #[] 0), #[]⟩) :: (nat_lit 596, ⟨(.type "code"), none, (.fields #[(.str "_law_counts" 926), (.str "_law_counts" 927), (.str "/claim/cut.py" 928), (.int 261 0), (.int 1 0), (.int 0 0), (.int 0 0), (.int 3 0), (.ref 591), (.bool true), (.int 181 0), (.ref 592), .none, (.ref 593), (.ref 594), (.ref 595), (.int 932 0), (.int 261 0), (.str "/claim/cut.py" 933)]), #[]⟩) :: (nat_lit 597, ⟨(.type "function"), none, (.func (fnOf "_law_counts" "_law_counts" (defArgs (top 37)) (defBody (top 37)) (defScope (top 37)) .none .none .none (.str "law_countkin_k23_four_families_refuse" 916) none (.ref 596) .none)), #[]⟩) :: (nat_lit 598, ⟨(.type "tuple"), none, (.seq #[] 0), #[]⟩) :: (nat_lit 600, ⟨(.type "tuple"), none, (.seq #[(.str "_law_word" 938)] 0), #[]⟩) :: (nat_lit 601, ⟨(.type "tuple"), none, (.seq #[] 0), #[]⟩) :: (nat_lit 603, ⟨(.type "code"), none, (.fields #[(.str "_law_kin" 935), (.str "_law_kin" 936), (.str "/claim/cut.py" 937), (.int 266 0), (.int 1 0), (.int 0 0), (.int 0 0), (.int 3 0), (.ref 598), (.bool true), (.int 181 0), (.ref 599), .none, (.ref 600), (.ref 601), (.ref 602), (.int 939 0), (.int 266 0), (.str "/claim/cut.py" 940)]), #[]⟩) :: (nat_lit 604, ⟨(.type "function"), none, (.func (fnOf "_law_kin" "_law_kin" (defArgs (top 38)) (defBody (top 38)) (defScope (top 38)) .none .none .none (.str "law_countkin_k23_four_families_refuse" 916) none (.ref 603) .none)), #[]⟩) :: (nat_lit 605, ⟨(.type "tuple"), none, (.seq #[] 0), #[]⟩) :: (nat_lit 607, ⟨(.type "tuple"), none, (.seq #[(.str "_law_error" 945), (.str "_law_found" 946)] 0), #[]⟩) :: (nat_lit 608, ⟨(.type "tuple"), none, (.seq #[] 0), #[]⟩) :: (nat_lit 610, ⟨(.type "code"), none, (.fields #[(.str "_law_classes" 942), (.str "_law_classes" 943), (.str "/claim/cut.py" 944), (.int 274 0), (.int 1 0), (.int 0 0), (.int 0 0), (.int 3 0), (.ref 605), (.bool true), (.int 181 0), (.ref 606), .none, (.ref 607), (.ref 608), (.ref 609), (.int 947 0), (.int 274 0), (.str "/claim/cut.py" 948)]), #[]⟩) :: (nat_lit 611, ⟨(.type "function"), none, (.func (fnOf "_law_classes" "_law_classes" (defArgs (top 39)) (defBody (top 39)) (defScope (top 39)) .none .none .none (.str "law_countkin_k23_four_families_refuse" 916) none (.ref 610) .none)), #[]⟩) :: (nat_lit 612, ⟨(.type "tuple"), none, (.seq #[] 0), #[]⟩) :: (nat_lit 614, ⟨(.type "tuple"), none, (.seq #[(.str "_law_kin_here" 953), (.str "_law_size" 954), (.str "_law_caught" 955), (.str "e" 956)] 0), #[]⟩) :: (nat_lit 615, ⟨(.type "tuple"), none, (.seq #[] 0), #[]⟩) :: (nat_lit 617, ⟨(.type "code"), none, (.fields #[(.str "_law_many_refused" 950), (.str "_law_many_refused" 951), (.str "/claim/cut.py" 952), (.int 287 0), (.int 2 0), (.int 0 0), (.int 0 0), (.int 3 0), (.ref 612), (.bool true), (.int 181 0), (.ref 613), .none, (.ref 614), (.ref 615), (.ref 616), (.int 957 0), (.int 287 0), (.str "/claim/cut.py" 958)]), #[]⟩) :: (nat_lit 618, ⟨(.type "function"), none, (.func (fnOf "_law_many_refused" "_law_many_refused" (defArgs (top 40)) (defBody (top 40)) (defScope (top 40)) .none .none .none (.str "law_countkin_k23_four_families_refuse" 916) none (.ref 617) .none)), #[]⟩) :: (nat_lit 619, ⟨(.type "tuple"), none, (.seq #[] 0), #[]⟩) :: (nat_lit 621, ⟨(.type "tuple"), none, (.seq #[(.str "_law_kin_here" 963), (.str "_law_size" 964), (.str "_law_number" 965), (.str "_law_caught" 966), (.str "e" 967)] 0), #[]⟩) :: (nat_lit 622, ⟨(.type "tuple"), none, (.seq #[] 0), #[]⟩) :: (nat_lit 624, ⟨(.type "code"), none, (.fields #[(.str "_law_thing_refused" 960), (.str "_law_thing_refused" 961), (.str "/claim/cut.py" 962), (.int 294 0), (.int 3 0), (.int 0 0), (.int 0 0), (.int 3 0), (.ref 619), (.bool true), (.int 181 0), (.ref 620), .none, (.ref 621), (.ref 622), (.ref 623), (.int 968 0), (.int 294 0), (.str "/claim/cut.py" 969)]), #[]⟩) :: (nat_lit 625, ⟨(.type "function"), none, (.func (fnOf "_law_thing_refused" "_law_thing_refused" (defArgs (top 41)) (defBody (top 41)) (defScope (top 41)) .none .none .none (.str "law_countkin_k23_four_families_refuse" 916) none (.ref 624) .none)), #[]⟩) :: (nat_lit 626, ⟨(.type "tuple"), none, (.seq #[] 0), #[]⟩) :: (nat_lit 628, ⟨(.type "tuple"), none, (.seq #[(.str "_law_script" 974), (.str "_law_kin_here" 975), (.str "_law_size" 976), (.str "_law_many" 977), (.str "_law_far" 978), (.str "_law_none" 979), (.str "_law_number" 980), (.str "_law_other" 981), (.str "_law_one" 982), (.str "_law_most" 983), (.str "_law_good" 984)] 0), #[]⟩) :: (nat_lit 629, ⟨(.type "tuple"), none, (.seq #[] 0), #[]⟩) :: (nat_lit 631, ⟨(.type "code"), none, (.fields #[(.str "law" 971), (.str "law" 972), (.str "/claim/cut.py" 973), (.int 301 0), (.int 1 0), (.int 0 0), (.int 0 0), (.int 3 0), (.ref 626), (.bool true), (.int 181 0), (.ref 627), .none, (.ref 628), (.ref 629), (.ref 630), (.int 985 0), (.int 301 0), (.str "/claim/cut.py" 986)]), #[]⟩) :: (nat_lit 632, ⟨(.type "function"), none, (.func (fnOf "law" "law" (defArgs (top 42)) (defBody (top 42)) (defScope (top 42)) .none .none .none (.str "law_countkin_k23_four_families_refuse" 916) none (.ref 631) .none)), #[]⟩) :: []
noncomputable def hA : List Addr := (2 :: 3 :: 15 :: 17 :: 18 :: 20 :: 21 :: 22 :: 25 :: 26 :: 27 :: 29 :: 30 :: 32 :: 33 :: 34 :: 41 :: 42 :: 43 :: 44 :: 47 :: 54 :: 55 :: 56 :: 59 :: 66 :: 67 :: 68 :: 71 :: 78 :: 79 :: 80 :: 83 :: 90 :: 91 :: 92 :: 95 :: 102 :: 103 :: 104 :: 107 :: 114 :: 115 :: 116 :: 119 :: 126 :: 127 :: 128 :: 131 :: 138 :: 139 :: 140 :: 143 :: 150 :: 152 :: 153 :: 155 :: 156 :: 157 :: 158 :: 159 :: 169 :: 171 :: 172 :: 174 :: 175 :: 176 :: 178 :: 179 :: 181 :: 182 :: 183 :: 185 :: 186 :: 188 :: 189 :: 190 :: 192 :: 193 :: 195 :: 196 :: 197 :: 199 :: 200 :: 202 :: 203 :: 204 :: 206 :: 207 :: 209 :: 210 :: 211 :: 213 :: 214 :: 216 :: 217 :: 218 :: 220 :: 221 :: 223 :: 224 :: 225 :: 227 :: 228 :: 230 :: 231 :: 232 :: 234 :: 235 :: 237 :: 238 :: 239 :: 241 :: 242 :: 244 :: 245 :: 246 :: 247 :: 248 :: 249 :: 250 :: 253 :: 260 :: 262 :: 263 :: 265 :: 266 :: 267 :: 269 :: 270 :: 272 :: 273 :: 274 :: 276 :: 277 :: 279 :: 280 :: 281 :: 283 :: 284 :: 286 :: 287 :: 288 :: 290 :: 291 :: 293 :: 294 :: 295 :: 297 :: 298 :: 300 :: 301 :: 302 :: 304 :: 305 :: 307 :: 308 :: 309 :: 311 :: 312 :: 314 :: 315 :: 316 :: 318 :: 319 :: 321 :: 322 :: 323 :: 324 :: 325 :: 328 :: 331 :: 332 :: 333 :: 336 :: 337 :: 338 :: 340 :: 341 :: 343 :: 344 :: 345 :: 347 :: 348 :: 350 :: 351 :: 352 :: 354 :: 355 :: 357 :: 358 :: 359 :: 366 :: 368 :: 369 :: 371 :: 372 :: 373 :: 375 :: 376 :: 378 :: 379 :: 380 :: 383 :: 384 :: 385 :: 387 :: 388 :: 390 :: 391 :: 392 :: 394 :: 395 :: 397 :: 398 :: 399 :: 401 :: 402 :: 404 :: 405 :: 406 :: 407 :: 408 :: 411 :: 418 :: 420 :: 421 :: 423 :: 424 :: 425 :: 428 :: 429 :: 430 :: 433 :: 434 :: 435 :: 437 :: 438 :: 440 :: 441 :: 442 :: 444 :: 445 :: 447 :: 448 :: 449 :: 452 :: 453 :: 454 :: 455 :: 456 :: 459 :: 462 :: 463 :: 464 :: 471 :: 473 :: 474 :: 476 :: 477 :: 478 :: 480 :: 481 :: 483 :: 484 :: 485 :: 488 :: 489 :: 490 :: 492 :: 493 :: 495 :: 496 :: 497 :: 499 :: 500 :: 502 :: 503 :: 504 :: 506 :: 507 :: 509 :: 510 :: 511 :: 512 :: 513 :: 516 :: 518 :: 519 :: 521 :: 522 :: 523 :: 530 :: 532 :: 533 :: 535 :: 536 :: 537 :: 539 :: 540 :: 542 :: 543 :: 544 :: 546 :: 547 :: 549 :: 550 :: 551 :: 553 :: 554 :: 556 :: 557 :: 558 :: 560 :: 561 :: 563 :: 564 :: 565 :: 567 :: 568 :: 570 :: 571 :: 572 :: 573 :: 574 :: 577 :: 579 :: 580 :: 582 :: 583 :: 584 :: 586 :: 587 :: 589 :: 590 :: 591 :: 593 :: 594 :: 596 :: 597 :: 598 :: 600 :: 601 :: 603 :: 604 :: 605 :: 607 :: 608 :: 610 :: 611 :: 612 :: 614 :: 615 :: 617 :: 618 :: 619 :: 621 :: 622 :: 624 :: 625 :: 626 :: 628 :: 629 :: 631 :: 632 :: [])
noncomputable abbrev hX : Shared → Bool := (fun s => xlAt hQ [] s && recOk (RowW.records (OpenRow.toRowW (OpenLaw.row PySem.Challenge.rw_countkin_k23_four_families_refuse))) s)
theorem hKA : ∀ P : Params, hA = (hK P).map (·.1) := fun _ => by kernel_rfl
noncomputable abbrev hH : Hook := kHook hK hA hKA
noncomputable def hLook (P : Params) (s : Shared) := ((staticsOk (importedModules PySem.Challenge.pw_countkin_k23_four_families_refuse.main.body) (boot_heap P) s.heap && namesBound PySem.Challenge.pw_countkin_k23_four_families_refuse s.heap && gensDone s && laidKept (boot_heap P) s.heap), openSeen hQ hL (importedModules PySem.Challenge.pw_countkin_k23_four_families_refuse.main.body) hX true s, hA.map s.heap.get?)
noncomputable def hPreF (w : World) (os : OsState) := topGo treeTable PySem.Challenge.pw_countkin_k23_four_families_refuse w 11 (some (.ref 6)) 12 ⟨boot_heap w.params, Array.mk [], boot_drawn, boot_toks, os⟩ (topStub PySem.Challenge.pw_countkin_k23_four_families_refuse)
noncomputable def hPreG (w : World) (os : OsState) : Option (Shared × Thread) := some ((hS w os).abs, ⟨denote treeTable hC, hC, ⟨0, 0, 0, 0⟩, [topFrame ⟨0, 0, 0, 0⟩]⟩)
noncomputable def hBlkF (w : World) (os : OsState) := segRun treeTable PySem.Challenge.pw_countkin_k23_four_families_refuse w 11 (some (.ref 6)) 1 1 (hS w os).abs (blockOf hB hE hC ⟨0, 0, 0, 0⟩ [topFrame ⟨0, 0, 0, 0⟩])
noncomputable def hBlkG (w : World) (os : OsState) : Option (Flow × Shared × Code × Pos) := some (.next, (hS w os).abs, hC, ⟨0, 0, 0, 0⟩)
noncomputable def hRunF (w : World) (os : OsState) := (segRunT treeTable PySem.Challenge.pw_countkin_k23_four_families_refuse w 11 (some (.ref 6)) 1 5468 (hS w os) (piecesOf hB hE hC ⟨0, 0, 0, 0⟩ [topFrame ⟨0, 0, 0, 0⟩])).map (lookEnd treeTable PySem.Challenge.pw_countkin_k23_four_families_refuse w 11 (some (.ref 6)) ⟨0, 0, 0, 0⟩ hC 2 (hLook w.params))
noncomputable def hRunG (w : World) (_ : OsState) := some (Flow.next, hC, some (true, openGood hQ hL, (hK w.params).map fun p => some p.2))
noncomputable def hSizF (w : World) := ((boot_heap w.params).isNs mainGlobals && (Array.mk [] : Array GenState).size == 0, (boot_heap w.params).objs.size, (boot_heap w.params).nsMap mainGlobals "__annotations__")
noncomputable def hSizG (_ : World) : Bool × Nat × Option Value := (true, 11, (some (.ref 6)))
theorem hSeed : (fun _ _ _ _ _ _ _ _ => true) hPreF hPreG hBlkF hBlkG hRunF hRunG hSizF hSizG = true := by k_qdec
theorem hPre : hPreF = hPreG := Eq.trans PySem.W.Fast.te5317814654954331368 (Eq.trans (by kernel_rfl) (Eq.symm PySem.W.Fast.te14277440360295502494))
theorem hBlk : hBlkF = hBlkG := Eq.trans PySem.W.Fast.te2033988648308832629 (Eq.trans (by kernel_rfl) (Eq.symm PySem.W.Fast.te1798457917166677164))
theorem hRun : hRunF = hRunG := Eq.trans PySem.W.Fast.te6412348297585774662 (Eq.trans (by kernel_rfl) (Eq.symm PySem.W.Fast.te15447895654253735931))
theorem hSiz : hSizF = hSizG := Eq.trans PySem.W.Fast.te13693962943478796877 (by kernel_rfl)
theorem hLeft : LeftO PySem.Challenge.pw_countkin_k23_four_families_refuse hQ hL hX (Hook.obs hH) (Hook.val hH) 11060 :=
  left_whole (boot_open (by kernel_rfl) (by decide) (fun _ => by kernel_rfl)) (fun w => congrFun hSiz w)
    (fun w os => run_whole (b := hB) (env := hE) (L := hLook w.params) rfl (congrFun (congrFun hPre w) os) (congrFun (congrFun hBlk w) os) (congrFun (congrFun hRun w) os)) (by decide)
end Ck
open PySem PySem.W PyProof.Rows
set_option maxRecDepth 100000 in
set_option maxHeartbeats 0 in
theorem PySem.Challenge.cw_countkin_k23_four_families_refuse_holds : PySem.Challenge.rw_countkin_k23_four_families_refuse.Holds := by
  w_on; o_law
  refine holds_open (q := Ck.hQ) (loose := Ck.hL) (Xt := Ck.hX) (XP := XL Ck.hQ []) (Yf := Hook.obs (kHook Ck.hK Ck.hA Ck.hKA)) (Ya := Hook.val (kHook Ck.hK Ck.hA Ck.hKA)) (YP := Hook.says (kHook Ck.hK Ck.hA Ck.hKA)) (N := 11060) Ck.hLeft (Hook.of (kHook Ck.hK Ck.hA Ck.hKA)) (Hook.keeps (kHook Ck.hK Ck.hA Ck.hKA))
    (fun s e => xl_of s (Bool.and_eq_true_iff.mp e).1) XL.keeps (by rfl) (by rfl) (by rfl) (fun s e => recFacts_of (Bool.and_eq_true_iff.mp e).2) (by rfl) (by first | assumption | decide +kernel) (by decide +kernel) ⟨rfl, rfl, rfl, rfl, rfl, by decide +kernel⟩ ?hw ?hc
  case hw => w_witness2
  k_fill
  refine Ck.walk (l := PySem.Challenge.rw_countkin_k23_four_families_refuse) rfl rfl (fun w h Y => PySem.W.kIn_of Y) ?F
  case F =>
    intro w mg fa h KX G hmg
    refine' Ck.all_mk KX G hmg ?nc_Family ?nc_Bows ?nc_Rooms ?nc_Floors ?nc_Turns ?nc_SplitFamily ?a_Bows_thing_of ?a_Rooms_thing_of ?a_Floors_thing_of ?a_Turns_thing_of ?a_Bows_many ?a_Rooms_many ?a_Floors_many ?a_Turns_many ?a_Bows_size_of ?a_Rooms_size_of ?a_Floors_size_of ?a_Turns_size_of ?a_Turns_unchecked_many ?a_Floors_unchecked_many ?a_Rooms_unchecked_many ?a_Bows_unchecked_many ?a_Turns_unchecked_thing ?a_Turns_thing_by_parts ?a_Turns_bare ?a_Turns_joined ?a_Floors_unchecked_thing ?a_Floors_thing_by_parts ?a_Floors_bare ?a_Floors_joined ?a_Rooms_unchecked_thing ?a_Rooms_thing_by_parts ?a_Rooms_bare ?a_Rooms_joined ?a_Bows_unchecked_thing ?a_Bows_thing_by_parts ?a_Bows_bare ?a_Bows_joined ?ai_Bows ?ai_Rooms ?ai_Floors ?ai_Turns ?ch_SplitFamily___init___Bows ?cg_SplitFamily___init___Bows ?cr_SplitFamily___init___Bows ?ch_Family___init___Bows ?cg_Family___init___Bows ?cr_Family___init___Bows ?ch_SplitFamily___init___Rooms ?cg_SplitFamily___init___Rooms ?cr_SplitFamily___init___Rooms ?ch_Family___init___Rooms ?cg_Family___init___Rooms ?cr_Family___init___Rooms ?ch_SplitFamily___init___Floors ?cg_SplitFamily___init___Floors ?cr_SplitFamily___init___Floors ?ch_Family___init___Floors ?cg_Family___init___Floors ?cr_Family___init___Floors ?ch_SplitFamily___init___Turns ?cg_SplitFamily___init___Turns ?cr_SplitFamily___init___Turns ?ch_Family___init___Turns ?cg_Family___init___Turns ?cr_Family___init___Turns ?l1 ?c1 ?k1 ?i1 ?l2 ?c2 ?k2 ?i2 ?l3 ?c3 ?k3 ?i3 ?l4 ?c4 ?k4 ?i4 ?l5 ?c5 ?k5 ?i5 ?l6 ?c6 ?k6 ?i6 ?l7 ?c7 ?k7 ?i7 ?l8 ?c8 ?k8 ?i8 ?l9 ?c9 ?k9 ?i9 ?l10 ?c10 ?k10 ?i10 ?l11 ?c11 ?k11 ?i11 ?l12 ?c12 ?k12 ?i12 ?a13 ?l13 ?c13 ?k13 ?a14 ?l14 ?c14 ?k14 ?a15 ?l15 ?c15 ?k15 ?a16 ?l16 ?c16 ?k16 ?l17 ?c17 ?k17 ?i17 ?l18 ?c18 ?k18 ?i18 ?l19 ?c19 ?k19 ?i19 ?l20 ?c20 ?k20 ?i20 ?l21 ?c21 ?k21 ?i21 ?l22 ?c22 ?k22 ?i22 ?l23 ?c23 ?k23 ?i23 ?l24 ?c24 ?k24 ?i24 ?a25 ?l25 ?c25 ?k25 ?a26 ?l26 ?c26 ?k26 ?l27 ?c27 ?k27 ?i27 ?a28 ?l28 ?c28 ?k28 ?l29 ?c29 ?k29 ?i29 ?l30 ?c30 ?k30 ?i30 ?a31 ?l31 ?c31 ?k31 ?l32 ?c32 ?k32 ?i32 ?l33 ?c33 ?k33 ?i33 ?l34 ?c34 ?k34 ?i34 ?a35 ?l35 ?c35 ?k35 ?l36 ?c36 ?k36 ?i36 ?l37 ?c37 ?k37 ?i37 ?l38 ?c38 ?k38 ?i38 ?l39 ?c39 ?k39 ?i39 ?l40 ?c40 ?k40 ?i40 ?l41 ?c41 ?k41 ?i41 ?l42 ?c42 ?k42 ?i42 ?l43 ?c43 ?k43 ?i43 ?l44 ?c44 ?k44 ?i44 ?l45 ?c45 ?k45 ?i45 ?l46 ?c46 ?k46 ?i46 ?l47 ?c47 ?k47 ?i47 ?l48 ?c48 ?k48 ?i48 ?l49 ?c49 ?k49 ?i49 ?l50 ?c50 ?k50 ?i50 ?a51 ?l51 ?c51 ?k51 ?l52 ?c52 ?k52 ?i52 ?l53 ?c53 ?k53 ?i53 ?l54 ?c54 ?k54 ?i54 ?a55 ?l55 ?c55 ?k55 ?pg_Bows ?hd_Bows ?po_Bows ?sa_Bows ?pg_Rooms ?hd_Rooms ?po_Rooms ?sa_Rooms ?pg_Floors ?hd_Floors ?po_Floors ?sa_Floors ?pg_Turns ?hd_Turns ?po_Turns ?sa_Turns ?mk_Bows ?kc_Bows ?mk_Rooms ?kc_Rooms ?mk_Floors ?kc_Floors ?mk_Turns ?kc_Turns ?na_Bows_word ?na_Bows_least ?na_Rooms_word ?na_Rooms_least ?na_Floors_word ?na_Floors_least ?na_Turns_word ?na_Turns_least ?ia_Bows ?im_Bows ?ia_Rooms ?im_Rooms ?ia_Floors ?im_Floors ?ia_Turns ?im_Turns ?in_get ?in_tk ?ki_Bows_Family ?ki_Rooms_Family ?ki_Floors_Family ?ki_Turns_Family ?z_len ?z_range ?z_isinstance ?z_ValueError ?z_sum ?z_sorted ?y_GREATEST_SIZE ?n_kin ?n_size ?n_number ?n_thing ?n_family ?n_way ?n_apart ?n_mark ?n_text ?n_broken ?t_err
    (case nc_Family => k_is)
    (case nc_Bows => k_is)
    (case nc_Rooms => k_is)
    (case nc_Floors => k_is)
    (case nc_Turns => k_is)
    (case nc_SplitFamily => k_is)
    (case a_Bows_thing_of => k_is)
    (case a_Rooms_thing_of => k_is)
    (case a_Floors_thing_of => k_is)
    (case a_Turns_thing_of => k_is)
    (case a_Bows_many => k_is)
    (case a_Rooms_many => k_is)
    (case a_Floors_many => k_is)
    (case a_Turns_many => k_is)
    (case a_Bows_size_of => k_is)
    (case a_Rooms_size_of => k_is)
    (case a_Floors_size_of => k_is)
    (case a_Turns_size_of => k_is)
    (case a_Turns_unchecked_many => k_is)
    (case a_Floors_unchecked_many => k_is)
    (case a_Rooms_unchecked_many => k_is)
    (case a_Bows_unchecked_many => k_is)
    (case a_Turns_unchecked_thing => k_is)
    (case a_Turns_thing_by_parts => k_is)
    (case a_Turns_bare => k_is)
    (case a_Turns_joined => k_is)
    (case a_Floors_unchecked_thing => k_is)
    (case a_Floors_thing_by_parts => k_is)
    (case a_Floors_bare => k_is)
    (case a_Floors_joined => k_is)
    (case a_Rooms_unchecked_thing => k_is)
    (case a_Rooms_thing_by_parts => k_is)
    (case a_Rooms_bare => k_is)
    (case a_Rooms_joined => k_is)
    (case a_Bows_unchecked_thing => k_is)
    (case a_Bows_thing_by_parts => k_is)
    (case a_Bows_bare => k_is)
    (case a_Bows_joined => k_is)
    (case ai_Bows => k_is)
    (case ai_Rooms => k_is)
    (case ai_Floors => k_is)
    (case ai_Turns => k_is)
    (case ch_SplitFamily___init___Bows => k_is)
    (case cg_SplitFamily___init___Bows => k_is)
    (case cr_SplitFamily___init___Bows => k_is)
    (case ch_Family___init___Bows => k_is)
    (case cg_Family___init___Bows => k_is)
    (case cr_Family___init___Bows => k_is)
    (case ch_SplitFamily___init___Rooms => k_is)
    (case cg_SplitFamily___init___Rooms => k_is)
    (case cr_SplitFamily___init___Rooms => k_is)
    (case ch_Family___init___Rooms => k_is)
    (case cg_Family___init___Rooms => k_is)
    (case cr_Family___init___Rooms => k_is)
    (case ch_SplitFamily___init___Floors => k_is)
    (case cg_SplitFamily___init___Floors => k_is)
    (case cr_SplitFamily___init___Floors => k_is)
    (case ch_Family___init___Floors => k_is)
    (case cg_Family___init___Floors => k_is)
    (case cr_Family___init___Floors => k_is)
    (case ch_SplitFamily___init___Turns => k_is)
    (case cg_SplitFamily___init___Turns => k_is)
    (case cr_SplitFamily___init___Turns => k_is)
    (case ch_Family___init___Turns => k_is)
    (case cg_Family___init___Turns => k_is)
    (case cr_Family___init___Turns => k_is)
    (case l1 => k_is)
    (case c1 => k_is)
    (case k1 => k_is)
    (case i1 => k_is)
    (case l2 => k_is)
    (case c2 => k_is)
    (case k2 => k_is)
    (case i2 => k_is)
    (case l3 => k_is)
    (case c3 => k_is)
    (case k3 => k_is)
    (case i3 => k_is)
    (case l4 => k_is)
    (case c4 => k_is)
    (case k4 => k_is)
    (case i4 => k_is)
    (case l5 => k_is)
    (case c5 => k_is)
    (case k5 => k_is)
    (case i5 => k_is)
    (case l6 => k_is)
    (case c6 => k_is)
    (case k6 => k_is)
    (case i6 => k_is)
    (case l7 => k_is)
    (case c7 => k_is)
    (case k7 => k_is)
    (case i7 => k_is)
    (case l8 => k_is)
    (case c8 => k_is)
    (case k8 => k_is)
    (case i8 => k_is)
    (case l9 => k_is)
    (case c9 => k_is)
    (case k9 => k_is)
    (case i9 => k_is)
    (case l10 => k_is)
    (case c10 => k_is)
    (case k10 => k_is)
    (case i10 => k_is)
    (case l11 => k_is)
    (case c11 => k_is)
    (case k11 => k_is)
    (case i11 => k_is)
    (case l12 => k_is)
    (case c12 => k_is)
    (case k12 => k_is)
    (case i12 => k_is)
    (case a13 => k_is)
    (case l13 => k_is)
    (case c13 => k_is)
    (case k13 => k_is)
    (case a14 => k_is)
    (case l14 => k_is)
    (case c14 => k_is)
    (case k14 => k_is)
    (case a15 => k_is)
    (case l15 => k_is)
    (case c15 => k_is)
    (case k15 => k_is)
    (case a16 => k_is)
    (case l16 => k_is)
    (case c16 => k_is)
    (case k16 => k_is)
    (case l17 => k_is)
    (case c17 => k_is)
    (case k17 => k_is)
    (case i17 => k_is)
    (case l18 => k_is)
    (case c18 => k_is)
    (case k18 => k_is)
    (case i18 => k_is)
    (case l19 => k_is)
    (case c19 => k_is)
    (case k19 => k_is)
    (case i19 => k_is)
    (case l20 => k_is)
    (case c20 => k_is)
    (case k20 => k_is)
    (case i20 => k_is)
    (case l21 => k_is)
    (case c21 => k_is)
    (case k21 => k_is)
    (case i21 => k_is)
    (case l22 => k_is)
    (case c22 => k_is)
    (case k22 => k_is)
    (case i22 => k_is)
    (case l23 => k_is)
    (case c23 => k_is)
    (case k23 => k_is)
    (case i23 => k_is)
    (case l24 => k_is)
    (case c24 => k_is)
    (case k24 => k_is)
    (case i24 => k_is)
    (case a25 => k_is)
    (case l25 => k_is)
    (case c25 => k_is)
    (case k25 => k_is)
    (case a26 => k_is)
    (case l26 => k_is)
    (case c26 => k_is)
    (case k26 => k_is)
    (case l27 => k_is)
    (case c27 => k_is)
    (case k27 => k_is)
    (case i27 => k_is)
    (case a28 => k_is)
    (case l28 => k_is)
    (case c28 => k_is)
    (case k28 => k_is)
    (case l29 => k_is)
    (case c29 => k_is)
    (case k29 => k_is)
    (case i29 => k_is)
    (case l30 => k_is)
    (case c30 => k_is)
    (case k30 => k_is)
    (case i30 => k_is)
    (case a31 => k_is)
    (case l31 => k_is)
    (case c31 => k_is)
    (case k31 => k_is)
    (case l32 => k_is)
    (case c32 => k_is)
    (case k32 => k_is)
    (case i32 => k_is)
    (case l33 => k_is)
    (case c33 => k_is)
    (case k33 => k_is)
    (case i33 => k_is)
    (case l34 => k_is)
    (case c34 => k_is)
    (case k34 => k_is)
    (case i34 => k_is)
    (case a35 => k_is)
    (case l35 => k_is)
    (case c35 => k_is)
    (case k35 => k_is)
    (case l36 => k_is)
    (case c36 => k_is)
    (case k36 => k_is)
    (case i36 => k_is)
    (case l37 => k_is)
    (case c37 => k_is)
    (case k37 => k_is)
    (case i37 => k_is)
    (case l38 => k_is)
    (case c38 => k_is)
    (case k38 => k_is)
    (case i38 => k_is)
    (case l39 => k_is)
    (case c39 => k_is)
    (case k39 => k_is)
    (case i39 => k_is)
    (case l40 => k_is)
    (case c40 => k_is)
    (case k40 => k_is)
    (case i40 => k_is)
    (case l41 => k_is)
    (case c41 => k_is)
    (case k41 => k_is)
    (case i41 => k_is)
    (case l42 => k_is)
    (case c42 => k_is)
    (case k42 => k_is)
    (case i42 => k_is)
    (case l43 => k_is)
    (case c43 => k_is)
    (case k43 => k_is)
    (case i43 => k_is)
    (case l44 => k_is)
    (case c44 => k_is)
    (case k44 => k_is)
    (case i44 => k_is)
    (case l45 => k_is)
    (case c45 => k_is)
    (case k45 => k_is)
    (case i45 => k_is)
    (case l46 => k_is)
    (case c46 => k_is)
    (case k46 => k_is)
    (case i46 => k_is)
    (case l47 => k_is)
    (case c47 => k_is)
    (case k47 => k_is)
    (case i47 => k_is)
    (case l48 => k_is)
    (case c48 => k_is)
    (case k48 => k_is)
    (case i48 => k_is)
    (case l49 => k_is)
    (case c49 => k_is)
    (case k49 => k_is)
    (case i49 => k_is)
    (case l50 => k_is)
    (case c50 => k_is)
    (case k50 => k_is)
    (case i50 => k_is)
    (case a51 => k_is)
    (case l51 => k_is)
    (case c51 => k_is)
    (case k51 => k_is)
    (case l52 => k_is)
    (case c52 => k_is)
    (case k52 => k_is)
    (case i52 => k_is)
    (case l53 => k_is)
    (case c53 => k_is)
    (case k53 => k_is)
    (case i53 => k_is)
    (case l54 => k_is)
    (case c54 => k_is)
    (case k54 => k_is)
    (case i54 => k_is)
    (case a55 => k_is)
    (case l55 => k_is)
    (case c55 => k_is)
    (case k55 => k_is)
    (case pg_Bows => k_is)
    (case hd_Bows => k_is)
    (case po_Bows => k_is)
    (case sa_Bows => k_is)
    (case pg_Rooms => k_is)
    (case hd_Rooms => k_is)
    (case po_Rooms => k_is)
    (case sa_Rooms => k_is)
    (case pg_Floors => k_is)
    (case hd_Floors => k_is)
    (case po_Floors => k_is)
    (case sa_Floors => k_is)
    (case pg_Turns => k_is)
    (case hd_Turns => k_is)
    (case po_Turns => k_is)
    (case sa_Turns => k_is)
    (case mk_Bows => k_is)
    (case kc_Bows => k_is)
    (case mk_Rooms => k_is)
    (case kc_Rooms => k_is)
    (case mk_Floors => k_is)
    (case kc_Floors => k_is)
    (case mk_Turns => k_is)
    (case kc_Turns => k_is)
    (case na_Bows_word => k_is)
    (case na_Bows_least => k_is)
    (case na_Rooms_word => k_is)
    (case na_Rooms_least => k_is)
    (case na_Floors_word => k_is)
    (case na_Floors_least => k_is)
    (case na_Turns_word => k_is)
    (case na_Turns_least => k_is)
    (case ia_Bows => k_is)
    (case im_Bows => k_is)
    (case ia_Rooms => k_is)
    (case im_Rooms => k_is)
    (case ia_Floors => k_is)
    (case im_Floors => k_is)
    (case ia_Turns => k_is)
    (case im_Turns => k_is)
    (case in_get => k_is)
    (case in_tk => k_is)
    (case ki_Bows_Family => kernel_rfl)
    (case ki_Rooms_Family => kernel_rfl)
    (case ki_Floors_Family => kernel_rfl)
    (case ki_Turns_Family => kernel_rfl)
    (case z_len => k_is)
    (case z_range => k_is)
    (case z_isinstance => k_is)
    (case z_ValueError => k_is)
    (case z_sum => k_is)
    (case z_sorted => k_is)
    (case y_GREATEST_SIZE => k_is)
    (case n_kin => k_is)
    (case n_size => k_is)
    (case n_number => k_is)
    (case n_thing => k_is)
    (case n_family => k_is)
    (case n_way => k_is)
    (case n_apart => k_is)
    (case n_mark => k_is)
    (case n_text => k_is)
    (case n_broken => k_is)
    (case t_err => kernel_rfl)

