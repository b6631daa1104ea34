import PyProof.Rows.All
import Wide.All
import OpenK.AllK
import Wide.FinOn
import Lean
import PyProof.EqAt
import PyProof.EqKinds
import PyProof.TupleCall
import KE.KRevSl
import KE.KTryMore
import Open.Pieces
import OpenK.KQuick
import OpenK.KWalk
import PyProof.ExcAttrAll.ValueError
import PyProof.FitsBits
import PyProof.NeKinds
import PySem.Challenge.RW_countkin_k39_rings_refuse
set_option Elab.async false
set_option linter.all false
set_option maxRecDepth 100000
/-! THE HAND LAYER, for ints, bools, texts, own classes, LISTS and tuples (index, slices, in, append, pop ..), calls, loops. Paste it whole ahead of your own text; what your proof does not reach may be deleted. -/
namespace L2
open PySem PySem.Spec PyProof.Rows

/-- a key: an int or a str -/
noncomputable abbrev Key := Sum Int Str
noncomputable def keyIs : Key → Value → Bool
  | .inl k, v => Value.isInt k v
  | .inr x, v => Value.isStrOf x v
noncomputable def keyH (w : World) : Key → Int
  | .inl k => hashInt k
  | .inr x => hashStr w x
theorem keyIs_shape : ∀ {k : Key} {v : Value}, keyIs k v = true → (∃ i t, k = Sum.inl i ∧ v = Value.int i t) ∨ (∃ x t, k = Sum.inr x ∧ v = Value.str x t)
  | .inl i, v, h => by
    obtain ⟨t, e⟩ := Value.isInt_shape (k := i) (v := v) h
    exact .inl ⟨i, t, rfl, e⟩
  | .inr x, v, h => by
    obtain ⟨t, e⟩ := Value.isStrOf_shape (x := x) (v := v) h
    exact .inr ⟨x, t, rfl, e⟩
theorem key_ll (a b : Int) : decide ((Sum.inl a : Key) = Sum.inl b) = (a == b) := by
  by_cases e : a = b
  · subst e; simp
  · have h : ¬ (Sum.inl a : Key) = Sum.inl b := fun q => e (Sum.inl.inj q)
    rw [decide_eq_false h]
    exact (beq_eq_false_iff_ne.mpr e).symm
theorem key_rr (a b : Str) : decide ((Sum.inr a : Key) = Sum.inr b) = decide (a = b) := by
  by_cases e : a = b
  · subst e; simp
  · have h : ¬ (Sum.inr a : Key) = Sum.inr b := fun q => e (Sum.inr.inj q)
    rw [decide_eq_false h, decide_eq_false e]
theorem key_lr (a : Int) (b : Str) : decide ((Sum.inl a : Key) = Sum.inr b) = false := decide_eq_false (fun q => nomatch q)
theorem key_rl (a : Str) (b : Int) : decide ((Sum.inr a : Key) = Sum.inl b) = false := decide_eq_false (fun q => nomatch q)

noncomputable def mixKind (prog : Program) (w : World) : PySem.KeyKind prog w Key where
  is := keyIs
  hash := keyH w
  inj := fun v a b ha hb => by
    rcases keyIs_shape ha with ⟨i, t, rfl, rfl⟩ | ⟨x, t, rfl, rfl⟩
    · rcases keyIs_shape hb with ⟨j, u, rfl, e⟩ | ⟨y, u, rfl, e⟩
      · injection e with e1 _; rw [e1]
      · exact nomatch e
    · rcases keyIs_shape hb with ⟨j, u, rfl, e⟩ | ⟨y, u, rfl, e⟩
      · exact nomatch e
      · injection e with e1 _; rw [e1]
  byValue := fun k v h => by
    rcases keyIs_shape h with ⟨i, t, rfl, rfl⟩ | ⟨x, t, rfl, rfl⟩ <;> rfl
  pyHash := fun hv h => by
    rcases keyIs_shape hv with ⟨i, t, rfl, rfl⟩ | ⟨x, t, rfl, rfl⟩
    · exact wpAny_pyHash_int h
    · exact wpAny_pyHash_str h
  eqBool := fun hu hv h => by
    rcases keyIs_shape hu with ⟨i, t, rfl, rfl⟩ | ⟨x, t, rfl, rfl⟩
    · rcases keyIs_shape hv with ⟨j, u, rfl, rfl⟩ | ⟨y, u, rfl, rfl⟩
      · rw [key_ll] at h; exact wpAny_eqBool_int h
      · rw [key_lr] at h; exact SeqAt.EqAt.int_str i t y u _ _ _ _ h
    · rcases keyIs_shape hv with ⟨j, u, rfl, rfl⟩ | ⟨y, u, rfl, rfl⟩
      · rw [key_rl] at h; exact SeqAt.EqAt.str_int x t j u _ _ _ _ h
      · rw [key_rr] at h; exact wpAny_eqBool_str h
  «strs» := fun k x t v h => by
    rcases keyIs_shape h with ⟨i, u, rfl, e⟩ | ⟨y, u, rfl, e⟩
    · exact nomatch e
    · injection e with e1 _
      subst e1
      cases v <;> rfl

end L2

namespace L2
open PySem PySem.Spec PyProof.Rows

/-- a value, without the heap -/
inductive V where
  | non | bl (b : Bool) | int (i : Int) | str (x : Str) | byt (b : Array UInt8) | flt (b : UInt64) | ref (a : Addr) | ty (n : String)
  deriving DecidableEq

noncomputable def RelV : V → Value → Prop
  | .non, u => u = Value.none
  | .bl b, u => u = Value.bool b
  | .int i, u => ∃ t, u = Value.int i t
  | .str x, u => ∃ t, u = Value.str x t
  | .byt b, u => ∃ t, u = Value.bytes b t
  | .flt b, u => ∃ t, u = Value.float b t
  | .ref a, u => u = Value.ref a
  | .ty n, u => u = Value.type n

noncomputable abbrev Vals : List V → List Value → Prop := Paired RelV
theorem Vals.length {xs : List V} {us : List Value} (r : Vals xs us) : xs.length = us.length := Paired.length r
theorem Vals.get : ∀ {xs : List V} {us : List Value} {i : Nat} {x : V}, Vals xs us → xs[i]? = some x → ∃ u, us[i]? = some u ∧ RelV x u
  | _, _, _, _, .nil, e => by simp at e
  | _, _, 0, _, .cons r _, e => by simp at e; subst e; exact ⟨_, rfl, r⟩
  | _, _, i + 1, x, .cons _ t, e => by
    obtain ⟨u, h1, h2⟩ := Vals.get (i := i) (x := x) t (by simpa using e)
    exact ⟨u, by simpa using h1, h2⟩
theorem Vals.set {x : V} {u : Value} (r : RelV x u) : ∀ {xs : List V} {us : List Value} (i : Nat), Vals xs us → Vals (xs.set i x) (us.set i u)
  | _, _, _, .nil => .nil
  | _, _, 0, .cons _ t => .cons r t
  | _, _, i + 1, .cons q t => .cons q (Vals.set r i t)
theorem Vals.append : ∀ {xs ys : List V} {us ws : List Value}, Vals xs us → Vals ys ws → Vals (xs ++ ys) (us ++ ws)
  | _, _, _, _, .nil, s => s
  | _, _, _, _, .cons r t, s => .cons r (Vals.append t s)
theorem Vals.take : ∀ {xs : List V} {us : List Value} (n : Nat), Vals xs us → Vals (xs.take n) (us.take n)
  | _, _, 0, _ => .nil
  | _, _, _ + 1, .nil => .nil
  | _, _, n + 1, .cons r t => .cons r (Vals.take n t)
theorem Vals.drop : ∀ {xs : List V} {us : List Value} (n : Nat), Vals xs us → Vals (xs.drop n) (us.drop n)
  | _, _, 0, r => r
  | _, _, _ + 1, .nil => .nil
  | _, _, n + 1, .cons _ t => Vals.drop n t
noncomputable def RelO : Option V → Option Value → Prop
  | some v, some u => RelV v u
  | none, none => True
  | _, _ => False
noncomputable def KV {κ : Type} : List (κ × V) → List (κ × Value) → Prop := Paired fun (p : κ × V) (q : κ × Value) => p.1 = q.1 ∧ RelV p.2 q.2

/-- a key of a dict (00_mix): an int or a text -/
noncomputable def kV : Key → V
  | .inl i => .int i
  | .inr x => .str x

/-- what stands at a tracked address -/
inductive HO where
  /-- a list -/
  | lst (xs : List V)
  /-- a tuple (never changes) -/
  | tup (xs : List V)
  /-- a dict whose keys are ints and texts; one whose keys are tuples of ints and texts (the empty one is both) -/
  | dK (kvs : List (Key × V)) | dT (kvs : List (List Key × V))
  /-- a set of ints: its members, its size -/
  | set (S : Int → Bool) (n : Nat)
  /-- an instance of the class at C, its dict at dx, its attributes -/
  | ins (C dx : Addr) (fs : List (Str × V))
  /-- the dict of the instance at x -/
  | own (x : Addr)
  /-- the dict of an exception -/
  | xd (fs : List (Str × V))
  /-- a bound method, f of x -/
  | met (f x : Addr)
  /-- a range object lo, lo + 1, .. below hi -/
  | rng (lo hi : Int)
  /-- a thing that is known to the object (the script; a dict while a loop walks it): read, never written while it is so -/
  | frz (o : Obj) (u : HO)
  /-- a code object's table -/
  | tbl (ps : Array Value)
  /-- any other thing, by what is true of its one object (a def of one's own: SetO a S n := HO.ext fun h => ..) -/
  | ext (φ : Heap → Prop)

noncomputable abbrev Hp := Addr → Option HO
noncomputable def upd (H : Hp) (a : Addr) (o : HO) : Hp := fun b => if b = a then some o else H b
theorem upd_same {H : Hp} {a : Addr} {o : HO} : upd H a o a = some o := by unfold upd; rw [if_pos rfl]
theorem upd_ne {H : Hp} {a b : Addr} {o : HO} (h : b ≠ a) : upd H a o b = H b := by unfold upd; rw [if_neg h]
theorem upd_upd {H : Hp} {a : Addr} {o u : HO} : upd (upd H a o) a u = upd H a u := by
  funext b; unfold upd; split <;> rfl
theorem ne_of_none {H : Hp} {a b : Addr} {o : HO} (h : H a = some o) (h' : H b = none) : a ≠ b := by
  intro e; subst e; rw [h] at h'; cases h'

section
variable (P : Program) (w : World)
noncomputable def ObjOk (H : Hp) (h : Heap) (a : Addr) : HO → Prop
  | .lst xs => xs.length ≤ sizeLine ∧ ∃ (its : List Value) (n : Nat), Vals xs its ∧ h.get? a = some { cls := .type "list", data := .seq its.toArray n }
  | .tup xs => xs.length ≤ sizeLine ∧ ∃ its : List Value, Vals xs its ∧ IsTup h a its.toArray
  | .dK kvs => kvs.length ≤ sizeLine ∧ (a == sysModules) = false ∧ ∃ vs, KV kvs vs ∧ h.DictOf (mixKind P w) a vs
  | .dT kvs => kvs.length ≤ sizeLine ∧ (a == sysModules) = false ∧ ∃ xs : List (List Key × Addr × Value),
      Paired (fun (p : List Key × V) (q : List Key × Addr × Value) => p.1 = q.1 ∧ H q.2.1 = some (.tup (p.1.map kV)) ∧ RelV p.2 q.2.2) kvs xs ∧
      ∃ o es ep, h.get? a = some o ∧ o.ExactDict ∧ o.data = .dict es ep ∧ es.toList = xs.map (entryOfKey (tupleKind (mixKind P w))) ∧ (xs.map (·.1)).Nodup
  | .set S n => h.SetOf (intKind P w) a S n
  | .ins C dx fs => H dx = some (.own a) ∧ fs.length ≤ 1000 ∧ dx ≠ a ∧ h.get? a = some (PySem.W.instObj C dx) ∧
      ∃ mA, h.Ns1 dx mA ∧ (∀ f, RelO (fs.lookup f) (mA f)) ∧ PySem.Within mA (fs.map (·.1))
  | .own _ => ∃ o, h.get? a = some o
  | .xd fs => ∃ mA, h.Ns1 a mA ∧ ∀ f, RelO (fs.lookup f) (mA f)
  | .rng lo hi => ∃ t u v, h.get? a = some { cls := .type "range", data := .fields #[.int lo t, .int hi u, .int 1 v] }
  | .frz o u => h.get? a = some o ∧ ObjOk H h a u
  | .tbl ps => h.get? a = some { cls := .none, data := .fields ps }
  | .met f x => h.get? a = some (PySem.W.methodObj (.ref f) (.ref x))
  | .ext φ => φ h ∧ (∃ o, h.get? a = some o) ∧ ∀ h1 h2 : Heap, φ h1 → (∀ o, h1.get? a = some o → h2.get? a = some o) → φ h2
/-- the abstract heap is held -/
noncomputable def HOk (H : Hp) (h : Heap) : Prop := ∀ a o, H a = some o → ObjOk P w H h a o
end

section
variable {P : Program} {w : World} {H H' : Hp} {h h' : Heap} {a : Addr} {o : HO}
theorem ObjOk.lt (x : ObjOk P w H h a o) : a < h.objs.size := by
  cases o with
  | lst xs => obtain ⟨_, _, _, _, e⟩ := x; exact Heap.lt_size e
  | tup xs => obtain ⟨_, _, _, p⟩ := x; exact p.lt
  | dK kvs => obtain ⟨_, _, _, _, o, _, _, e, _⟩ := x; exact Heap.lt_size e
  | dT kvs => obtain ⟨_, _, _, _, o, _, _, e, _⟩ := x; exact Heap.lt_size e
  | set S n => obtain ⟨o, _, _, _, e, _⟩ := x; exact Heap.lt_size e
  | ins C dx fs => obtain ⟨_, _, _, e, _⟩ := x; exact Heap.lt_size e
  | own y => obtain ⟨_, e⟩ := x; exact Heap.lt_size e
  | xd fs => obtain ⟨_, ⟨_, _, _, e, _⟩, _⟩ := x; exact Heap.lt_size e
  | rng lo hi => obtain ⟨_, _, _, e⟩ := x; exact Heap.lt_size e
  | frz ob u => obtain ⟨e, _⟩ := x; exact Heap.lt_size e
  | tbl ps => exact Heap.lt_size (show h.get? a = some _ from x)
  | met f y => exact Heap.lt_size (show h.get? a = some _ from x)
  | ext φ => obtain ⟨_, ⟨_, e⟩, _⟩ := x; exact Heap.lt_size e
theorem Paired.mapP {α β : Type} {F G : α → β → Prop} : ∀ {l₁ : List α} {l₂ : List β}, Paired F l₁ l₂ → (∀ a b, F a b → G a b) → Paired G l₁ l₂
  | _, _, .nil, _ => .nil
  | _, _, .cons r t, f => .cons (f _ _ r) (Paired.mapP t f)
/-- what an object's description leans on: its own object, its own dict, the tuples -/
theorem ObjOk.stay (x : ObjOk P w H h a o) (k : ∀ b u, (b = a ∨ H b = some (.own a)) → h.get? b = some u → h'.get? b = some u)
    (ho : ∀ b, H b = some (.own a) → H' b = some (.own a)) (ht : ∀ b xs, H b = some (.tup xs) → H' b = some (.tup xs)) : ObjOk P w H' h' a o := by
  induction o with
  | lst xs => obtain ⟨z, its, n, r, e⟩ := x; exact ⟨z, its, n, r, k _ _ (.inl rfl) e⟩
  | tup xs => obtain ⟨z, its, r, ob, e, c⟩ := x; exact ⟨z, its, r, ob, k _ _ (.inl rfl) e, c⟩
  | dK kvs => obtain ⟨z, y, vs, r, ob, es, ep, e, c⟩ := x; exact ⟨z, y, vs, r, ob, es, ep, k _ _ (.inl rfl) e, c⟩
  | dT kvs =>
    obtain ⟨z, y, xs, r, ob, es, ep, e, c⟩ := x
    exact ⟨z, y, xs, Paired.mapP r fun p q z => ⟨z.1, ht _ _ z.2.1, z.2.2⟩, ob, es, ep, k _ _ (.inl rfl) e, c⟩
  | set S n => obtain ⟨ob, es, ep, t, e, c⟩ := x; exact ⟨ob, es, ep, t, k _ _ (.inl rfl) e, c⟩
  | ins C dx fs =>
    obtain ⟨d, z, ne, e, mA, ⟨od, es, ep, e2, c⟩, r⟩ := x
    exact ⟨ho _ d, z, ne, k _ _ (.inl rfl) e, mA, ⟨od, es, ep, k _ _ (.inr d) e2, c⟩, r⟩
  | own y => obtain ⟨ob, e⟩ := x; exact ⟨ob, k _ _ (.inl rfl) e⟩
  | xd fs => obtain ⟨mA, ⟨od, es, ep, e, c⟩, r⟩ := x; exact ⟨mA, ⟨od, es, ep, k _ _ (.inl rfl) e, c⟩, r⟩
  | rng lo hi => obtain ⟨t, u, v, e⟩ := x; exact ⟨t, u, v, k _ _ (.inl rfl) e⟩
  | frz ob u ih => obtain ⟨e, q⟩ := x; exact ⟨k _ _ (.inl rfl) e, ih q⟩
  | tbl ps =>
    have e : h.get? a = some { cls := .none, data := .fields ps } := x
    show h'.get? a = some { cls := .none, data := .fields ps }
    exact k a _ (.inl rfl) e
  | met f y =>
    have e : h.get? a = some (PySem.W.methodObj (.ref f) (.ref y)) := x
    show h'.get? a = some (PySem.W.methodObj (.ref f) (.ref y))
    exact k a _ (.inl rfl) e
  | ext φ => obtain ⟨p, ⟨o, e⟩, st⟩ := x; exact ⟨st _ _ p fun o q => k _ _ (.inl rfl) q, ⟨o, k _ _ (.inl rfl) e⟩, st⟩
theorem HOk.lt (x : HOk P w H h) (e : H a = some o) : a < h.objs.size := (x a o e).lt
theorem HOk.fresh (x : HOk P w H h) (e : h.objs.size ≤ a) : H a = none := by
  cases q : H a with
  | none => rfl
  | some u => exact absurd (Nat.lt_of_lt_of_le (x.lt q) e) (Nat.lt_irrefl _)
/-- every object of the heap is kept -/
theorem HOk.kept (x : HOk P w H h) (k : ∀ b u, h.get? b = some u → h'.get? b = some u) : HOk P w H h' := fun a o e =>
  (x a o e).stay (fun b u _ q => k b u q) (fun _ q => q) fun _ _ q => q
/-- a new object is laid and tracked -/
theorem HOk.laid (x : HOk P w H h) (k : ∀ b u, h.get? b = some u → h'.get? b = some u) (hp : h.objs.size ≤ a) (new : ObjOk P w (upd H a o) h' a o) : HOk P w (upd H a o) h' := fun b u e => by
  have hn := x.fresh hp
  by_cases hb : b = a
  · subst hb; rw [upd_same] at e; cases e; exact new
  · rw [upd_ne hb] at e
    exact (x b u e).stay (fun c v _ q => k c v q) (fun c q => by rw [upd_ne (ne_of_none q hn)]; exact q) fun c xs q => by rw [upd_ne (ne_of_none q hn)]; exact q
end

/-- what may be read as u: it is u, or a known u -/
noncomputable def Rd (H : Hp) (a : Addr) (u : HO) : Prop := H a = some u ∨ ∃ o, H a = some (.frz o u)
theorem Rd.ok {P : Program} {w : World} {H : Hp} {h : Heap} {a : Addr} {u : HO} (r : Rd H a u) (x : HOk P w H h) : ObjOk P w H h a u := by
  rcases r with r | ⟨o, r⟩
  · exact x a u r
  · obtain ⟨_, q⟩ := x a _ r
    exact q
/-- what may be written -/
noncomputable def Mut : Option HO → Prop
  | some (.lst _) => True
  | some (.dK _) => True
  | some (.dT _) => True
  | some (.set _ _) => True
  | some (.ins _ _ _) => True
  | some (.ext _) => True
  | _ => False
section
variable {P : Program} {w : World} {H : Hp} {h h' : Heap} {x e : Addr} {o' : HO}
/-- the object at e is changed: x itself, or the dict of the instance x -/
theorem HOk.write (ok : HOk P w H h) (mu : Mut (H x)) (he : e = x ∨ H e = some (.own x)) (k : ∀ b u, b ≠ e → h.get? b = some u → h'.get? b = some u) (heo : ∃ u, h'.get? e = some u)
    (new : ObjOk P w (upd H x o') h' x o') : HOk P w (upd H x o') h' := fun b u q => by
  have nown : ∀ c y, H c = some (.own y) → c ≠ x := fun c y r z => by subst z; rw [r] at mu; exact mu
  have ntup : ∀ c xs, H c = some (.tup xs) → c ≠ x := fun c xs r z => by subst z; rw [r] at mu; exact mu
  by_cases hb : b = x
  · subst hb; rw [upd_same] at q; cases q; exact new
  · rw [upd_ne hb] at q
    by_cases hbe : b = e
    · have q' : H b = some (.own x) := by
        rcases he with z | z
        · exact absurd (hbe.trans z) hb
        · rw [hbe]; exact z
      rw [q] at q'; cases q'
      obtain ⟨v, hv⟩ := heo
      exact ⟨v, by rw [hbe]; exact hv⟩
    · refine (ok b u q).stay (fun c v hc r => k c v ?_ r) (fun c r => by rw [upd_ne (nown c b r)]; exact r) fun c xs r => by rw [upd_ne (ntup c xs r)]; exact r
      rcases hc with rfl | hc
      · exact hbe
      · rintro rfl
        rcases he with z | z
        · exact nown c b hc z
        · rw [hc] at z; cases z; exact hb rfl
end

/-! ### kept unless tracked; of the frames at fs (the callers') the slots may change (an exception that passes writes there); of the records at ex (iterators) nothing is said -/
structure Un (fs ex : List Addr) (H H' : Hp) (h h' : Heap) : Prop where
  keep : ∀ b o, h.get? b = some o → H b = none → b ∉ fs → b ∉ ex → h'.get? b = some o
  slot : ∀ b o, h.get? b = some o → H b = none → b ∈ fs → b ∉ ex → ∃ sl, h'.get? b = some { o with slots := sl }
  free : ∀ b o, h.get? b = some o → H b = none → b ∉ ex → H' b = none
  there : ∀ b o, h.get? b = some o → b ∉ ex → ∃ o', h'.get? b = some o'
  tups : ∀ b xs, H b = some (.tup xs) → H' b = some (.tup xs)
  frzs : ∀ b o u, H b = some (.frz o u) → H' b = some (.frz o u)
  tbls : ∀ b ps, H b = some (.tbl ps) → ∃ more, H' b = some (.tbl (ps ++ more))
section
variable {fs fs' ex ex' : List Addr} {H H1 H2 : Hp} {h h1 h2 h' : Heap} {a x e : Addr} {o : HO}
theorem Un.any (u : Un fs ex H H1 h h1) {b : Addr} {ob : Obj} (q : h.get? b = some ob) (n : H b = none) (hx : b ∉ ex) : ∃ sl, h1.get? b = some { ob with slots := sl } := by
  by_cases hb : b ∈ fs
  · exact u.slot b ob q n hb hx
  · exact ⟨ob.slots, u.keep b ob q n hb hx⟩
theorem Un.kept (k : ∀ b u, h.get? b = some u → h'.get? b = some u) : Un fs ex H H h h' :=
  ⟨fun b ob q _ _ _ => k b ob q, fun b ob q _ _ _ => ⟨ob.slots, k b ob q⟩, fun _ _ _ n _ => n, fun b ob q _ => ⟨ob, k b ob q⟩, fun _ _ q => q, fun _ _ _ q => q, fun _ ps q => ⟨#[], by rw [q]; simp⟩⟩
theorem Un.refl : Un fs ex H H h h := Un.kept fun _ _ q => q
theorem Un.laid (k : ∀ b u, h.get? b = some u → h'.get? b = some u) (hp : h.objs.size ≤ a) (hn : H a = none) : Un fs ex H (upd H a o) h h' where
  keep := fun b u q _ _ _ => k b u q
  slot := fun b u q _ _ _ => ⟨u.slots, k b u q⟩
  free := fun b u q n _ => by rw [upd_ne (Nat.ne_of_lt (Nat.lt_of_lt_of_le (Heap.lt_size q) hp))]; exact n
  there := fun b u q _ => ⟨u, k b u q⟩
  tups := fun b xs q => by rw [upd_ne (ne_of_none q hn)]; exact q
  frzs := fun b u xs q => by rw [upd_ne (ne_of_none q hn)]; exact q
  tbls := fun b ps q => ⟨#[], by rw [upd_ne (ne_of_none q hn), q]; simp⟩
theorem Un.write (mu : Mut (H x)) (he : e = x ∨ H e = some (.own x)) (k : ∀ b u, b ≠ e → h.get? b = some u → h'.get? b = some u) (heo : ∃ u, h'.get? e = some u) : Un fs ex H (upd H x o) h h' := by
  have hx : ∀ b, H b = none → b ≠ x := fun b n z => by subst z; rw [n] at mu; exact mu
  have hb : ∀ b, H b = none → b ≠ e := fun b n z => by
    subst z
    rcases he with r | r
    · exact hx b n r
    · rw [n] at r; cases r
  have hm : ∀ b u, H b = some u → ¬ Mut (some u) → b ≠ x := fun b u q nm z => by subst z; rw [q] at mu; exact nm mu
  refine ⟨fun b u q n _ _ => k b u (hb b n) q, fun b u q n _ _ => ⟨u.slots, k b u (hb b n) q⟩, fun b u q n _ => by rw [upd_ne (hx b n)]; exact n, fun b u q _ => ?_,
    fun b xs q => by rw [upd_ne (hm b _ q fun z => z)]; exact q, fun b u xs q => by rw [upd_ne (hm b _ q fun z => z)]; exact q, fun b ps q => ⟨#[], by rw [upd_ne (hm b _ q fun z => z), q]; simp⟩⟩
  by_cases hbe : b = e
  · subst hbe; exact heo
  · exact ⟨u, k b u hbe q⟩
end

/-! ### the heap without what is tracked -/
noncomputable def trk (h : Heap) (H : Hp) : List Addr := (List.range h.objs.size).filter fun a => (H a).isSome
noncomputable def hidT (h : Heap) (H : Hp) : Heap := PySem.W.hideAll h (trk h H)
theorem hidT_size (h : Heap) (H : Hp) : (hidT h H).objs.size = h.objs.size := PySem.W.hideAll_size _ _
theorem hidT_get {h : Heap} {H : Hp} {b : Addr} {o : Obj} (e : h.get? b = some o) (n : H b = none) : (hidT h H).get? b = some o :=
  PySem.W.hideAll_get _ e fun hm => by
    have q : (H b).isSome = true := (List.mem_filter.mp hm).2
    rw [n] at q; simp at q
theorem of_hidT {h : Heap} {H : Hp} {b : Addr} {o : Obj} (e : (hidT h H).get? b = some o) : h.get? b = some o ∧ H b = none := by
  have e' : h.get? b = some o := PySem.W.of_hideAll (trk h H) e
  refine ⟨e', ?_⟩
  cases q : H b with
  | none => rfl
  | some x =>
    have hm : b ∈ trk h H := List.mem_filter.mpr ⟨List.mem_range.mpr (Heap.lt_size e'), by simp [q]⟩
    have z : (hidT h H).get? b = none := PySem.W.hideAll_none (trk h H) hm
    rw [z] at e; cases e

/-! ### OpenK's ledger, filled with every new object but one -/
noncomputable def allNews (g h : Heap) (L : Addr) : List (Addr × Obj) := (List.range h.objs.size).filterMap fun a => if a = L ∨ (g.get? a).isSome = true then none else (h.get? a).map fun o => (a, o)
noncomputable def rest (g h : Heap) (L d : Addr) : List (Addr × Obj) := (allNews g h L).filter fun p => decide (p.1 ≠ d)
end L2

namespace L2
open PySem PySem.Spec PyProof.Rows

/-- the module's facts, over the base: the heap at the law's entry without what is tracked there -/
structure Mod (K : PySem.W.Frag) (mg : Str → Option Value) (base : Heap) : Prop where
  kin : K.In base
  glob : base.Ns mainGlobals mg
  blt : ∃ mb, base.Ns builtinsNs mb ∧ ∀ x : Str, x ≠ "__name__" → mb x = bootBuiltins x
  nolimit : base.NoLimit

/-- the context: a def's body (or a comprehension's block) running. base: fixed through the whole law; s₀, H₀: the entry; outer: the frames whose slots others may change (a def's callers); stack: all frames that run;
   ex: iterators that were made ahead of the entry and are walked here (a comprehension's); fn: the names whose cells were made at the entry (a def: all; a comprehension's block: its own); calm: not within an except suite; pn: pins that every state bears; xe: what is wanted of an exception that leaves the code -/
structure Cx where
  prog : Program
  w : World
  K : PySem.W.Frag
  mg : Str → Option Value
  base : Heap
  A : Around
  N : List Str
  s₀ : Shared
  H₀ : Hp
  env : Env
  outer : List Env
  stack : List Env
  ex : List Addr
  fn : Str → Bool
  calm : Bool
  pn : List (Addr × Obj)
  xe : Value → Shared → Prop
/-- the callers' frames -/
noncomputable def frs (l : List Env) : List Addr := l.filterMap (·.frame)
noncomputable abbrev Cx.fs (X : Cx) : List Addr := frs X.outer

noncomputable def Vis (sc : Scope) (x : Str) : Prop := sc.names.lookup x = some .local ∨ sc.names.lookup x = some .cell ∨ sc.names.lookup x = some .free
noncomputable def Loc (sc : Scope) (x : Str) : Prop := sc.names.lookup x = some .local ∨ sc.names.lookup x = some .cell
noncomputable def Look (env : Env) (h : Heap) (m : Str → Option Value) (x : Str) (u : Value) : Prop :=
  (env.kindOf x = some .local ∧ m x = some u) ∨ ((env.kindOf x = some .cell ∨ env.kindOf x = some .free) ∧ ∃ c, env.cells.lookup x = some c ∧ h.IsCell c (some u))

structure Cx.Ok (X : Cx) : Prop where
  mod : Mod X.K X.mg X.base
  kind : X.env.scope.kind = .function
  glob : X.env.globals = mainGlobals
  blt : X.env.builtins = builtinsNs
  above : X.s₀.heap.objs.size ≤ X.env.locals
  inj : ∀ x y c, X.env.cells.lookup x = some c → X.env.cells.lookup y = some c → x = y
  has : ∀ x, (X.env.kindOf x = some .cell ∨ X.env.kindOf x = some .free) → ∃ c, X.env.cells.lookup x = some c
  cab : ∀ x c, X.fn x = true → X.env.cells.lookup x = some c → X.s₀.heap.objs.size ≤ c
  hd : X.calm = true → X.A.handled = none
  frames : X.A.frames = some X.stack
  stk : X.stack = X.outer ∨ (X.stack = X.env :: X.outer ∧ X.env.frame = some X.env.locals)
  exf : ∀ b ∈ X.ex, b ≠ X.env.locals ∧ ∀ x c, X.env.cells.lookup x = some c → c ≠ b
  bs : ∀ b o, X.base.get? b = some o → X.s₀.heap.get? b = some o ∧ X.H₀ b = none
  bsz : X.base.objs.size ≤ X.s₀.heap.objs.size
  noex : ∀ b o, X.base.get? b = some o → b ∉ X.ex
  exfs : ∀ b ∈ X.ex, b ∉ X.fs
  funs : X.s₀.heap.FunFrames X.base X.outer
  frf : ∀ b ∈ X.fs, X.H₀ b = none

structure Inv (X : Cx) (pins : List (Addr × Obj)) (σ : List (Option V)) (H : Hp) (s : Shared) : Prop where
  ok : X.Ok
  os : s.os = X.s₀.os
  bare : AllBare s.gens
  base : Un X.fs X.ex X.H₀ H X.s₀.heap s.heap
  loc : ∃ m, s.heap.Ns X.env.locals m ∧ ∀ (i : Nat) (x : Str) (v : V), X.N[i]? = some x → σ[i]? = some (some v) → Vis X.env.scope x → ∃ u, RelV v u ∧ Look X.env s.heap m x u
  cell : ∀ x c, X.env.cells.lookup x = some c → ∃ v, s.heap.IsCell c v
  free : H X.env.locals = none
  freeC : ∀ x c, X.env.cells.lookup x = some c → H c = none
  pin : ∀ p ∈ X.pn ++ pins, s.heap.get? p.1 = some p.2 ∧ H p.1 = none ∧ p.1 ≠ X.env.locals ∧ p.1 ∉ X.fs ∧ ∀ v, p.2.data ≠ .cell v
  hok : HOk X.prog X.w H s.heap
  len : σ.length = X.N.length

section
variable {X : Cx} {pins : List (Addr × Obj)} {σ : List (Option V)} {H H' : Hp} {s : Shared} {h' : Heap}

theorem Cx.Ok.nofr (ok : X.Ok) {b : Addr} {o : Obj} (e : X.base.get? b = some o) : b ∉ X.fs := fun hb => by
  have := (ok.funs.mem hb).1
  rw [e] at this; cases this
theorem Inv.bs (I : Inv X pins σ H s) : ∀ b o, X.base.get? b = some o → s.heap.get? b = some o ∧ H b = none := fun b o e =>
  ⟨I.base.keep b o (I.ok.bs b o e).1 (I.ok.bs b o e).2 (I.ok.nofr e) (I.ok.noex b o e), I.base.free b o (I.ok.bs b o e).1 (I.ok.bs b o e).2 (I.ok.noex b o e)⟩
theorem Inv.bk (I : Inv X pins σ H s) : ∀ b o, X.base.get? b = some o → s.heap.get? b = some o := fun b o e => (I.bs b o e).1
theorem Inv.mod (I : Inv X pins σ H s) : Mod X.K X.mg X.base := I.ok.mod
theorem Inv.kIn (I : Inv X pins σ H s) : X.K.In s.heap := I.ok.mod.kin.keeps I.bk
/-- the frame over the base: for OpenK's rules (K.In X.base is I.mod.kin) -/
theorem Inv.fr (I : Inv X pins σ H s) : ∃ m, Fr X.base X.env.locals s.heap m :=
  let ⟨m, hn, _⟩ := I.loc
  ⟨m, hn, I.bk, Nat.le_trans I.ok.bsz I.ok.above⟩
theorem Inv.lt (I : Inv X pins σ H s) : X.env.locals < s.heap.objs.size := let ⟨_, hn, _⟩ := I.loc; hn.lt
theorem Inv.sz (I : Inv X pins σ H s) : X.s₀.heap.objs.size ≤ s.heap.objs.size := Nat.le_trans I.ok.above (Nat.le_of_lt I.lt)
theorem Inv.nofs (I : Inv X pins σ H s) {a : Addr} (h : s.heap.objs.size ≤ a) : a ∉ X.fs := fun hb => by
  obtain ⟨_, o, ho, _⟩ := I.ok.funs.mem hb
  exact absurd (Nat.lt_of_lt_of_le (Heap.lt_size ho) (Nat.le_trans I.sz h)) (Nat.lt_irrefl _)
theorem Inv.cne (I : Inv X pins σ H s) : ∀ x c, X.env.cells.lookup x = some c → c ≠ X.env.locals := fun x c e z => by
  obtain ⟨v, o, ho, hd⟩ := I.cell x c e
  obtain ⟨m, ⟨o', es, ep, ho', hd', _⟩, _⟩ := I.loc
  rw [z, ho'] at ho; cases ho; rw [hd'] at hd; cases hd
theorem Inv.funs (I : Inv X pins σ H s) : s.heap.FunFrames X.base X.outer := by
  have all : ∀ (l : List Env), (∀ b ∈ frs l, b ∈ X.fs) → X.s₀.heap.FunFrames X.base l → s.heap.FunFrames X.base l := by
    intro l
    induction l with
    | nil => intro _ _; trivial
    | cons env r ih =>
      intro hs hl
      obtain ⟨hk, ⟨L, o, hf, hn, ho, hd⟩, hr⟩ := hl
      have hL : L ∈ X.fs := hs L (by unfold frs; rw [List.filterMap_cons, hf]; exact List.mem_cons_self)
      obtain ⟨sl, e⟩ := I.base.slot L o ho (I.ok.frf L hL) hL fun z => I.ok.exfs L z hL
      exact ⟨hk, ⟨L, _, hf, hn, e, hd⟩, ih (fun b hb => hs b (by unfold frs; rw [List.filterMap_cons, hf]; exact List.mem_cons_of_mem _ hb)) hr⟩
  exact all X.outer (fun _ hb => hb) I.ok.funs

/-- the frames that run, for a call -/
theorem Inv.stack (I : Inv X pins σ H s) : s.heap.FunFrames X.base X.stack := by
  rcases I.ok.stk with e | ⟨e, hf⟩
  · rw [e]; exact I.funs
  · rw [e]
    obtain ⟨m, hn, _⟩ := I.loc
    refine .cons (by rw [I.ok.kind]; decide) hf hn ?_ I.funs
    exact Heap.get?_none_of_le (Nat.le_trans I.ok.bsz I.ok.above)
theorem Inv.stkSub (I : Inv X pins σ H s) : ∀ b ∈ frs X.stack, b ∈ X.env.locals :: X.fs := fun b hb => by
  rcases I.ok.stk with e | ⟨e, hf⟩
  · rw [e] at hb; exact List.mem_cons_of_mem _ hb
  · rw [e] at hb
    unfold frs at hb
    rw [List.filterMap_cons, hf] at hb
    exact hb
theorem Inv.stkFree (I : Inv X pins σ H s) : ∀ b ∈ frs X.stack, H b = none := fun b hb => by
  rcases List.mem_cons.mp (I.stkSub b hb) with e | hb
  · rw [e]; exact I.free
  · obtain ⟨_, o, ho, _⟩ := I.ok.funs.mem hb
    exact I.base.free b o ho (I.ok.frf b hb) fun z => I.ok.exfs b z hb

/-- THE STEP: the untracked objects but the frame and the records at ch are kept (the callers' frames up to slots), the frame's map is kept, the new abstract heap is held -/
theorem Inv.step {g' : Array GenState} {t' : Nat} {d' : Drawn} {ch : List Addr} (I : Inv X pins σ H s)
    (hch : ∀ b ∈ ch, (b ∈ X.ex ∨ X.s₀.heap.objs.size ≤ b) ∧ b ≠ X.env.locals ∧ (∀ x c, X.env.cells.lookup x = some c → c ≠ b) ∧ ∀ p ∈ X.pn ++ pins, p.1 ≠ b)
    (keep : ∀ b o, b ≠ X.env.locals → b ∉ X.fs → b ∉ ch → s.heap.get? b = some o → H b = none → h'.get? b = some o)
    (slot : ∀ b o, b ≠ X.env.locals → b ∈ X.fs → b ∉ ch → s.heap.get? b = some o → H b = none → ∃ sl, h'.get? b = some { o with slots := sl }) (free : ∀ b o, b ∉ ch → s.heap.get? b = some o → H b = none → H' b = none)
    (there : ∀ b o, b ∉ ch → s.heap.get? b = some o → ∃ o', h'.get? b = some o')
    (tups : ∀ b xs, H b = some (.tup xs) → H' b = some (.tup xs)) (frzs : ∀ b o u, H b = some (.frz o u) → H' b = some (.frz o u)) (tbls : ∀ b ps, H b = some (.tbl ps) → ∃ more, H' b = some (.tbl (ps ++ more)))
    (ns : ∀ m, s.heap.Ns X.env.locals m → h'.Ns X.env.locals m) (hok : HOk X.prog X.w H' h') (hg : AllBare g') :
    Inv X pins σ H' { s with heap := h', gens := g', drawn := d', toks := t' } := by
  have neL : ∀ b o, X.s₀.heap.get? b = some o → b ≠ X.env.locals := fun b o e => Nat.ne_of_lt (Nat.lt_of_lt_of_le (Heap.lt_size e) I.ok.above)
  have neC : ∀ b o, X.s₀.heap.get? b = some o → b ∉ X.ex → b ∉ ch := fun b o e hx hb => by
    rcases (hch b hb).1 with z | z
    · exact hx z
    · exact absurd (Nat.lt_of_lt_of_le (Heap.lt_size e) z) (Nat.lt_irrefl _)
  have cellK : ∀ x c, X.env.cells.lookup x = some c → ∀ v, s.heap.IsCell c v → h'.IsCell c v := fun x c e v ⟨o, ho, hd⟩ => by
    have nch : c ∉ ch := fun z => (hch c z).2.2.1 x c e rfl
    by_cases hc : c ∈ X.fs
    · obtain ⟨sl, q⟩ := slot c o (I.cne x c e) hc nch ho (I.freeC x c e)
      exact ⟨_, q, hd⟩
    · exact ⟨o, keep c o (I.cne x c e) hc nch ho (I.freeC x c e), hd⟩
  refine ⟨I.ok, I.os, hg, ⟨fun b o e n hb hx => ?_, fun b o e n hb hx => ?_, fun b o e n hx => ?_, fun b o e hx => ?_, fun b xs e => tups b xs (I.base.tups b xs e), fun b o xs e => frzs b o xs (I.base.frzs b o xs e), fun b ps e => ?_⟩, ?_, fun x c e => ?_, ?_, fun x c e => ?_, fun p hp => ?_, hok, I.len⟩
  · exact keep b o (neL b o e) hb (neC b o e hx) (I.base.keep b o e n hb hx) (I.base.free b o e n hx)
  · obtain ⟨sl, e1⟩ := I.base.slot b o e n hb hx
    obtain ⟨sl', e2⟩ := slot b _ (neL b o e) hb (neC b o e hx) e1 (I.base.free b o e n hx)
    exact ⟨sl', e2⟩
  · obtain ⟨o', e1⟩ := I.base.there b o e hx
    exact free b o' (neC b o e hx) e1 (I.base.free b o e n hx)
  · obtain ⟨o', e1⟩ := I.base.there b o e hx
    exact there b o' (neC b o e hx) e1
  · obtain ⟨m1, e1⟩ := I.base.tbls b ps e
    obtain ⟨m2, e2⟩ := tbls b _ e1
    exact ⟨m1 ++ m2, by rw [e2, Array.append_assoc]⟩
  · obtain ⟨m, hn, hl⟩ := I.loc
    refine ⟨m, ns m hn, fun i x v e1 e2 e3 => ?_⟩
    obtain ⟨u, r, l⟩ := hl i x v e1 e2 e3
    refine ⟨u, r, ?_⟩
    rcases l with l | ⟨k, c, e, z⟩
    · exact .inl l
    · exact .inr ⟨k, c, e, cellK x c e _ z⟩
  · obtain ⟨v, z⟩ := I.cell x c e
    exact ⟨v, cellK x c e v z⟩
  · obtain ⟨m, ⟨o, _, _, ho, _⟩, _⟩ := I.loc
    exact free _ o (fun z => (hch _ z).2.1 rfl) ho I.free
  · obtain ⟨v, o, ho, hd⟩ := I.cell x c e
    exact free c o (fun z => (hch c z).2.2.1 x c e rfl) ho (I.freeC x c e)
  · obtain ⟨e, n, ne, nf, d⟩ := I.pin p hp
    have nch : p.1 ∉ ch := fun z => (hch p.1 z).2.2.2 p hp rfl
    exact ⟨keep p.1 p.2 ne nf nch e n, free p.1 p.2 nch e n, ne, nf, d⟩
/-- .. where the frame's own object is kept too -/
theorem Inv.un {t' : Nat} (I : Inv X pins σ H s) (u : Un X.fs [] H H' s.heap h') (hok : HOk X.prog X.w H' h') : Inv X pins σ H' { s with heap := h', toks := t' } := by
  obtain ⟨m, ⟨o, es, ep, ho, r⟩, _⟩ := id I.loc
  obtain ⟨sl, hL⟩ := u.any ho I.free (by simp)
  exact I.step (g' := s.gens) (d' := s.drawn) (ch := []) (fun _ z => nomatch z) (fun b o _ hb _ e n => u.keep b o e n hb (by simp)) (fun b o _ hb _ e n => u.slot b o e n hb (by simp)) (fun b o _ e n => u.free b o e n (by simp)) (fun b o _ e => u.there b o e (by simp)) u.tups u.frzs u.tbls (fun m' hm => by
    obtain ⟨o', es', ep', ho', r'⟩ := hm
    rw [ho] at ho'; cases ho'
    exact ⟨_, es', ep', hL, r'⟩) hok I.bare
/-- behind a call (or a comprehension's block): the slots of this frame may have changed too, the records at ch may have turned -/
theorem Inv.call {g' : Array GenState} {t' : Nat} {d' : Drawn} {ch : List Addr} (I : Inv X pins σ H s) (u : Un (frs X.stack) ch H H' s.heap h') (hok : HOk X.prog X.w H' h') (hg : AllBare g')
    (hch : ∀ b ∈ ch, (b ∈ X.ex ∨ X.s₀.heap.objs.size ≤ b) ∧ b ≠ X.env.locals ∧ (∀ x c, X.env.cells.lookup x = some c → c ≠ b) ∧ ∀ p ∈ X.pn ++ pins, p.1 ≠ b) :
    Inv X pins σ H' { s with heap := h', gens := g', drawn := d', toks := t' } := by
  obtain ⟨m, ⟨o, es, ep, ho, r⟩, _⟩ := id I.loc
  obtain ⟨sl, hL⟩ := u.any ho I.free fun z => (hch _ z).2.1 rfl
  exact I.step (ch := ch) hch (fun b o hL hb hc e n => u.keep b o e n (fun z => (List.mem_cons.mp (I.stkSub b z)).elim hL hb) hc) (fun b o _ _ hc e n => u.any e n hc) (fun b o hc e n => u.free b o e n hc) (fun b o hc e => u.there b o e hc) u.tups u.frzs u.tbls (fun m' hm => by
    obtain ⟨o', es', ep', ho', r'⟩ := hm
    rw [ho] at ho'; cases ho'
    exact ⟨_, es', ep', hL, r'⟩) hok hg
/-- an untracked record of ours (an iterator) has turned -/
theorem Inv.turned {t' : Nat} {it : Addr} (I : Inv X pins σ H s) (k : ∀ b o, b ≠ it → s.heap.get? b = some o → h'.get? b = some o) (hn : H it = none) (hL : it ≠ X.env.locals)
    (h1 : it ∈ X.ex ∨ X.s₀.heap.objs.size ≤ it) (h2 : ∀ x c, X.env.cells.lookup x = some c → c ≠ it) (h3 : ∀ p ∈ X.pn ++ pins, p.1 ≠ it) : Inv X pins σ H { s with heap := h', toks := t' } := by
  have nit : ∀ b u, H b = some u → b ≠ it := fun b u e z => by rw [z, hn] at e; cases e
  refine I.step (g' := s.gens) (d' := s.drawn) (ch := [it]) (fun b hb => ?_) (fun b o _ _ hc e _ => k b o (fun z => hc (by simp [z])) e) (fun b o _ _ hc e _ => ⟨o.slots, k b o (fun z => hc (by simp [z])) e⟩) (fun _ _ _ _ n => n)
    (fun b o hc e => ⟨o, k b o (fun z => hc (by simp [z])) e⟩) (fun _ _ e => e) (fun _ _ _ e => e) (fun b ps e => ⟨#[], by rw [e]; simp⟩) (fun m hm => ?_) (fun b u e => ?_) I.bare
  · have e : b = it := by simpa using hb
    subst e
    exact ⟨h1, hL, h2, h3⟩
  · obtain ⟨o, es, ep, ho, r⟩ := hm
    exact ⟨o, es, ep, k _ o (Ne.symm hL) ho, r⟩
  · refine (I.hok b u e).stay (fun c v hc q => k c v ?_ q) (fun _ q => q) fun _ _ q => q
    rcases hc with z | z
    · rw [z]; exact nit b u e
    · exact nit c _ z
theorem Inv.tok (I : Inv X pins σ H s) (t : Nat) : Inv X pins σ H { s with toks := t } := I.un (h' := s.heap) (t' := t) Un.refl I.hok
/-- all objects kept -/
theorem Inv.kept {t' : Nat} (I : Inv X pins σ H s) (k : ∀ b u, s.heap.get? b = some u → h'.get? b = some u) : Inv X pins σ H { s with heap := h', toks := t' } := I.un (Un.kept k) (I.hok.kept k)
/-- a new object laid and tracked -/
theorem Inv.laid {a : Addr} {o : HO} {t' : Nat} (I : Inv X pins σ H s) (k : ∀ b u, s.heap.get? b = some u → h'.get? b = some u) (hp : s.heap.objs.size ≤ a) (new : ObjOk X.prog X.w (upd H a o) h' a o) :
    Inv X pins σ (upd H a o) { s with heap := h', toks := t' } := I.un (Un.laid k hp (I.hok.fresh hp)) (I.hok.laid k hp new)
/-- an object written -/
theorem Inv.write {x e : Addr} {o : HO} {t' : Nat} (I : Inv X pins σ H s) (mu : Mut (H x)) (he : e = x ∨ H e = some (.own x)) (k : ∀ b u, b ≠ e → s.heap.get? b = some u → h'.get? b = some u) (heo : ∃ u, h'.get? e = some u)
    (new : ObjOk X.prog X.w (upd H x o) h' x o) : Inv X pins σ (upd H x o) { s with heap := h', toks := t' } := I.un (Un.write mu he k heo) (I.hok.write mu he k heo new)
/-- forgetting slots, pins -/
theorem Inv.weak {σ' : List (Option V)} (I : Inv X pins σ H s) (hl : σ'.length = σ.length) (w : ∀ (i : Nat) v, σ'[i]? = some (some v) → σ[i]? = some (some v)) : Inv X pins σ' H s :=
  ⟨I.ok, I.os, I.bare, I.base, let ⟨m, hn, hl'⟩ := I.loc; ⟨m, hn, fun i x v e1 e2 e3 => hl' i x v e1 (w i v e2) e3⟩, I.cell, I.free, I.freeC, I.pin, I.hok, hl.trans I.len⟩
theorem Inv.pins_of {pins' : List (Addr × Obj)} (I : Inv X pins σ H s) (h : ∀ p ∈ pins', s.heap.get? p.1 = some p.2 ∧ H p.1 = none ∧ p.1 ≠ X.env.locals ∧ p.1 ∉ X.fs ∧ ∀ v, p.2.data ≠ .cell v) : Inv X pins' σ H s :=
  ⟨I.ok, I.os, I.bare, I.base, I.loc, I.cell, I.free, I.freeC, fun p hp => (List.mem_append.mp hp).elim (fun z => I.pin p (List.mem_append_left _ z)) (h p), I.hok, I.len⟩

theorem nodup_ix {N : List Str} (hN : N.Nodup) {i j : Nat} {x : Str} (a : N[i]? = some x) (b : N[j]? = some x) : i = j := by
  obtain ⟨h1, e1⟩ := List.getElem?_eq_some_iff.mp a
  obtain ⟨h2, e2⟩ := List.getElem?_eq_some_iff.mp b
  exact (List.getElem_inj hN).mp (e1.trans e2.symm)

/-- a name is stored; what changed -/
theorem store_ok2 {M : Model} {A : Around} {E : Value → Shared → Prop} {i : Nat} {x : Str} {v : V} {u : Value} {Q : Unit → Shared → Prop} (I : Inv X pins σ H s) (hN : X.N.Nodup) (hi : X.N[i]? = some x) (hx : Loc X.env.scope x) (r : RelV v u)
    (h : ∀ s', Inv X pins (σ.set i (some v)) H s' → (∃ a, Heap.SameBut a s.heap s'.heap ∧ (a = X.env.locals ∨ X.env.cells.lookup x = some a)) → Q () s') (hf : X.fn x = true ∨ X.env.scope.names.lookup x = some .local := by first | exact .inl rfl | exact .inr rfl | assumption) : wpAny M A (storeName X.env x u) Q E s := by
  obtain ⟨m, hn, hl⟩ := id I.loc
  have hcls : (X.env.scope.kind == .class || (X.env.scope.kind == .module && X.env.locals != X.env.globals)) = false := by rw [I.ok.kind]; rfl
  have hiσ : i < σ.length := by rw [I.len]; exact (List.getElem?_eq_some_iff.mp hi).1
  have cne := I.cne
  have tracked : ∀ {a : Addr} {h' : Heap}, (∃ o, s.heap.get? a = some o ∧ H a = none) → Heap.SameBut a s.heap h' → HOk X.prog X.w H h' := fun {a h'} ha hs b ob e => by
    obtain ⟨_, _, hfree⟩ := ha
    refine (I.hok b ob e).stay (fun c w' hc q => (hs.2 c ?_).trans q) (fun _ q => q) fun _ _ q => q
    rintro rfl
    rcases hc with rfl | hc
    · rw [hfree] at e; cases e
    · rw [hfree] at hc; cases hc
  rcases hx with hk | hk
  · refine wpAny_storeName_local hk hn (fun h' hn' hs => ?_) hcls
    obtain ⟨oL, _, _, hoL, _⟩ := id hn
    refine h _ ⟨I.ok, I.os, I.bare, ⟨fun b o e n hb hx => ?_, fun b o e n hb hx => ?_, I.base.free, fun b o e hx => ?_, I.base.tups, I.base.frzs, I.base.tbls⟩, ⟨_, hn', fun j y v' e1 e2 e3 => ?_⟩, fun y c e => ?_, I.free, I.freeC, fun p hp => ?_, tracked ⟨oL, hoL, I.free⟩ hs, by simpa using I.len⟩ ⟨_, hs, .inl rfl⟩
    · exact (hs.2 b (Nat.ne_of_lt (Nat.lt_of_lt_of_le (Heap.lt_size e) I.ok.above))).trans (I.base.keep b o e n hb hx)
    · obtain ⟨sl, e1⟩ := I.base.slot b o e n hb hx
      exact ⟨sl, (hs.2 b (Nat.ne_of_lt (Nat.lt_of_lt_of_le (Heap.lt_size e) I.ok.above))).trans e1⟩
    · obtain ⟨o', e1⟩ := I.base.there b o e hx
      exact ⟨o', (hs.2 b (Nat.ne_of_lt (Nat.lt_of_lt_of_le (Heap.lt_size e) I.ok.above))).trans e1⟩
    · by_cases hj : j = i
      · subst hj
        rw [hi] at e1; cases e1
        rw [List.getElem?_set_self hiσ] at e2
        cases e2
        exact ⟨u, r, .inl ⟨hk, by simp⟩⟩
      · rw [List.getElem?_set_ne (Ne.symm hj)] at e2
        obtain ⟨u', r', q⟩ := hl j y v' e1 e2 e3
        refine ⟨u', r', ?_⟩
        rcases q with ⟨k, e⟩ | ⟨k, c, e, z⟩
        · refine .inl ⟨k, ?_⟩
          have : y ≠ x := fun e => hj (nodup_ix hN e1 (e ▸ hi))
          simp [this, e]
        · exact .inr ⟨k, c, e, z.sameBut hs (cne y c e)⟩
    · obtain ⟨w', z⟩ := I.cell y c e
      exact ⟨w', z.sameBut hs (cne y c e)⟩
    · obtain ⟨e, n, ne, nf, d⟩ := I.pin p hp
      exact ⟨(hs.2 p.1 ne).trans e, n, ne, nf, d⟩
  · have hfn : X.fn x = true := by
      rcases hf with z | z
      · exact z
      · rw [z] at hk; cases hk
    obtain ⟨c, hc⟩ := I.ok.has x (.inl hk)
    obtain ⟨w', z⟩ := I.cell x c hc
    refine wpAny_storeName_cell I.ok.kind hk hc z (fun h' hc' hs => ?_)
    obtain ⟨oc, hoc, hocd⟩ := id z
    refine h { s with heap := h' } ⟨I.ok, I.os, I.bare, ⟨fun b o e n hb hx => ?_, fun b o e n hb hx => ?_, I.base.free, fun b o e hx => ?_, I.base.tups, I.base.frzs, I.base.tbls⟩, ⟨m, hn.sameBut hs (Ne.symm (cne x c hc)), fun j y v' e1 e2 e3 => ?_⟩, fun y c' e => ?_, I.free, I.freeC, fun p hp => ?_, tracked ⟨oc, hoc, I.freeC x c hc⟩ hs, by simpa using I.len⟩ ⟨c, hs, .inr hc⟩
    · exact (hs.2 b (Nat.ne_of_lt (Nat.lt_of_lt_of_le (Heap.lt_size e) (I.ok.cab x c hfn hc)))).trans (I.base.keep b o e n hb hx)
    · obtain ⟨sl, e1⟩ := I.base.slot b o e n hb hx
      exact ⟨sl, (hs.2 b (Nat.ne_of_lt (Nat.lt_of_lt_of_le (Heap.lt_size e) (I.ok.cab x c hfn hc)))).trans e1⟩
    · obtain ⟨o', e1⟩ := I.base.there b o e hx
      exact ⟨o', (hs.2 b (Nat.ne_of_lt (Nat.lt_of_lt_of_le (Heap.lt_size e) (I.ok.cab x c hfn hc)))).trans e1⟩
    · by_cases hj : j = i
      · subst hj
        rw [hi] at e1; cases e1
        rw [List.getElem?_set_self hiσ] at e2
        cases e2
        exact ⟨u, r, .inr ⟨.inl hk, c, hc, hc'⟩⟩
      · rw [List.getElem?_set_ne (Ne.symm hj)] at e2
        obtain ⟨u', r', q⟩ := hl j y v' e1 e2 e3
        refine ⟨u', r', ?_⟩
        rcases q with q | ⟨k, c', e, z'⟩
        · exact .inl q
        · refine .inr ⟨k, c', e, z'.sameBut hs ?_⟩
          rintro rfl
          exact hj (nodup_ix hN e1 (I.ok.inj _ _ _ e hc ▸ hi))
    · by_cases hcc : c' = c
      · subst hcc; exact ⟨_, hc'⟩
      · obtain ⟨w2, z2⟩ := I.cell y c' e
        exact ⟨w2, z2.sameBut hs hcc⟩
    · obtain ⟨e, n, ne, nf, d⟩ := I.pin p hp
      refine ⟨(hs.2 p.1 ?_).trans e, n, ne, nf, d⟩
      intro q
      rw [q, hoc] at e
      have q' : oc = p.2 := Option.some.inj e
      exact d w' (by rw [← q']; exact hocd)
theorem store_ok {M : Model} {A : Around} {E : Value → Shared → Prop} {i : Nat} {x : Str} {v : V} {u : Value} {Q : Unit → Shared → Prop} (I : Inv X pins σ H s) (hN : X.N.Nodup) (hi : X.N[i]? = some x) (hx : Loc X.env.scope x) (r : RelV v u)
    (h : ∀ s', Inv X pins (σ.set i (some v)) H s' → Q () s') (hf : X.fn x = true ∨ X.env.scope.names.lookup x = some .local := by first | exact .inl rfl | exact .inr rfl | assumption) : wpAny M A (storeName X.env x u) Q E s :=
  store_ok2 I hN hi hx r (fun s' I' _ => h s' I') hf
/-- behind a call or a block, the state as it is -/
theorem Inv.call' {s' : Shared} {ch : List Addr} (I : Inv X pins σ H s) (ho : s'.os = s.os) (u : Un (frs X.stack) ch H H' s.heap s'.heap) (hok : HOk X.prog X.w H' s'.heap) (hg : AllBare s'.gens)
    (hch : ∀ b ∈ ch, (b ∈ X.ex ∨ X.s₀.heap.objs.size ≤ b) ∧ b ≠ X.env.locals ∧ (∀ x c, X.env.cells.lookup x = some c → c ≠ b) ∧ ∀ p ∈ X.pn ++ pins, p.1 ≠ b) : Inv X pins σ H' s' := by
  obtain ⟨h', g', d', t', o'⟩ := s'
  have e : o' = s.os := ho
  subst e
  exact I.call (g' := g') (t' := t') (d' := d') u hok hg hch
end

/-! ### the judgements -/
/-- an exception: its class, its own dict's address (where it has one), the abstract heap behind it -/
noncomputable abbrev XK := Value → Option Addr → Hp → Prop
noncomputable abbrev St := List (Option V)
noncomputable abbrev VK := V → Hp → Prop
/-- an expression's reading; a test's; an argument list's -/
noncomputable abbrev TE := St → Hp → VK → Prop
noncomputable abbrev TT := St → Hp → (Bool → Hp → Prop) → Prop
noncomputable abbrev TA := St → Hp → (List V → Hp → Prop) → Prop
/-- what is wanted behind a statement -/
structure Ends where
  nx : St → Hp → Prop
  rt : VK
  bk : St → Hp → Prop := fun _ _ => False
  ct : St → Hp → Prop := fun _ _ => False
noncomputable abbrev TS := Ends → St → Hp → Prop

noncomputable def EP (X : Cx) (pins : List (Addr × Obj)) (σ : St) (Q : VK) (u : Value) (s' : Shared) : Prop := ∃ v H', Inv X pins σ H' s' ∧ RelV v u ∧ Q v H'
noncomputable def TP (X : Cx) (pins : List (Addr × Obj)) (σ : St) (Q : Bool → Hp → Prop) (b : Bool) (s' : Shared) : Prop := ∃ H', Inv X pins σ H' s' ∧ Q b H'
noncomputable def AP (X : Cx) (pins : List (Addr × Obj)) (σ : St) (Q : List V → Hp → Prop) (us : List Value) (s' : Shared) : Prop := ∃ vs H', Inv X pins σ H' s' ∧ Vals vs us ∧ Q vs H'
noncomputable def SP (X : Cx) (pins : List (Addr × Obj)) (D : Ends) (f : Flow) (s' : Shared) : Prop :=
  match f with
  | .next => ∃ σ' H', Inv X pins σ' H' s' ∧ D.nx σ' H'
  | .brk => ∃ σ' H', Inv X pins σ' H' s' ∧ D.bk σ' H'
  | .cont => ∃ σ' H', Inv X pins σ' H' s' ∧ D.ct σ' H'
  | .ret u => ∃ v σ' H', Inv X pins σ' H' s' ∧ RelV v u ∧ D.rt v H'

noncomputable def PE (X : Cx) (e : Expr) (t : TE) : Prop :=
  ∀ (pins : List (Addr × Obj)) (s : Shared) (σ : St) (H : Hp) (Q : VK), Inv X pins σ H s → t σ H Q → wpAny (model X.prog X.w) X.A (eval e X.env) (EP X pins σ Q) X.xe s
noncomputable def PT (X : Cx) (e : Expr) (t : TT) : Prop :=
  ∀ (pins : List (Addr × Obj)) (s : Shared) (σ : St) (H : Hp) (Q : Bool → Hp → Prop), Inv X pins σ H s → t σ H Q → wpAny (model X.prog X.w) X.A (isTrue e X.env (eval e X.env)) (TP X pins σ Q) X.xe s
/-- a test whatever its 'whole' is (and, or) -/
noncomputable def PW (X : Cx) (e : Expr) (t : TT) : Prop :=
  ∀ (whole : Sem Value) (pins : List (Addr × Obj)) (s : Shared) (σ : St) (H : Hp) (Q : Bool → Hp → Prop), Inv X pins σ H s → t σ H Q → wpAny (model X.prog X.w) X.A (isTrue e X.env whole) (TP X pins σ Q) X.xe s
theorem PW.pt {X : Cx} {e : Expr} {t : TT} (h : PW X e t) : PT X e t := h _
/-- an argument list (no star), from the left -/
noncomputable def PA (X : Cx) (es : List Expr) (t : TA) : Prop :=
  ∀ (pos : Pos) (pins : List (Addr × Obj)) (s : Shared) (σ : St) (H : Hp) (Q : List V → Hp → Prop), Inv X pins σ H s → t σ H Q → wpAny (model X.prog X.w) X.A (spliced (backTo pos (starEach es X.env))) (AP X pins σ Q) X.xe s
noncomputable def PS (X : Cx) (st : Stmt) (t : TS) : Prop :=
  ∀ (pins : List (Addr × Obj)) (s : Shared) (σ : St) (H : Hp) (D : Ends), Inv X pins σ H s → t D σ H → wpAny (model X.prog X.w) X.A (exec st X.env) (SP X pins D) X.xe s
noncomputable def PSs (X : Cx) (st : List Stmt) (t : TS) : Prop :=
  ∀ (pins : List (Addr × Obj)) (s : Shared) (σ : St) (H : Hp) (D : Ends), Inv X pins σ H s → t D σ H → wpAny (model X.prog X.w) X.A (execs st X.env) (SP X pins D) X.xe s
/-- weaken the end -/
theorem thn {α : Type} {t : Sem α} {Q Q' : α → Shared → Prop} {M : Model} {A : Around} {E : Value → Shared → Prop} {s : Shared} (h : wpAny M A t Q E s) (hQ : ∀ a s, Q a s → Q' a s) : wpAny M A t Q' E s := wpAny_mono h hQ fun _ _ x => x
end L2

namespace L2
open PySem PySem.Spec PyProof.Rows
section
variable {X : Cx}

/-- two expressions in a row -/
theorem bin {a b : Expr} {ta tb : TE} (ha : PE X a ta) (hb : PE X b tb) {pins : List (Addr × Obj)} {s : Shared} {σ : St} {H : Hp} {R : V → V → Hp → Prop} (I : Inv X pins σ H s) (h : ta σ H fun x H1 => tb σ H1 fun y H2 => R x y H2)
    {α : Type} {Q : α → Shared → Prop} {f : Value → Value → Sem α}
    (hf : ∀ v u s2 x y H2, Inv X pins σ H2 s2 → RelV x v → RelV y u → R x y H2 → wpAny (model X.prog X.w) X.A (f v u) Q X.xe s2) :
    wpAny (model X.prog X.w) X.A (eval a X.env) (fun v s₁ => wpAny (model X.prog X.w) X.A (eval b X.env) (fun u s₂ => wpAny (model X.prog X.w) X.A (f v u) Q X.xe s₂) X.xe s₁) X.xe s := by
  refine thn (ha pins s σ H _ I h) fun v s1 ⟨x, H1, I1, r1, q1⟩ => ?_
  refine thn (hb pins s1 σ H1 _ I1 q1) fun u s2 ⟨y, H2, I2, r2, q2⟩ => ?_
  exact hf v u s2 x y H2 I2 r1 r2 q2

/-! ### names and constants -/
noncomputable def tVar (i : Nat) : TE := fun σ H Q => ∃ v, σ[i]? = some (some v) ∧ Q v H
noncomputable def tC (v : V) : TE := fun _ H Q => Q v H
theorem pe_var {i : Nat} {x : Str} {pos : Pos} (hN : X.N[i]? = some x) (hv : Vis X.env.scope x) (hd : (x == ("__debug__" : Str)) = false := by decide) (hcd : (x == ("__classdict__" : Str)) = false := by decide) : PE X (.Name x pos) (tVar i) := by
  intro pins s σ H Q I h
  obtain ⟨v, e, h⟩ := h
  obtain ⟨m, hn, hl⟩ := I.loc
  obtain ⟨u, r, l⟩ := hl i x v hN e hv
  have fin : EP X pins σ Q u s := ⟨v, H, I, r, h⟩
  rcases l with ⟨hk, hm⟩ | ⟨hk, c, hc, hcell⟩
  · exact wpAny_Name (wpAny_loadName_local I.ok.kind hk hn hm fin) hd
  · rcases hk with hk | hk
    · exact wpAny_Name (wpAny_loadName_cell I.ok.kind hk hc hcell fin) hd
    · exact wpAny_Name (wpAny_loadName_free I.ok.kind hk hc hcell fin hcd) hd
theorem pe_int {i j pos} : PE X (.Constant (.int i) j pos) (tC (.int i)) := fun _ _ _ H _ I h => wpAny_Constant_int ⟨.int i, H, I.tok _, ⟨_, rfl⟩, h⟩
theorem pe_bl {b j pos} : PE X (.Constant (.bool b) j pos) (tC (.bl b)) := fun _ _ _ H _ I h => Constant_bool ⟨.bl b, H, I, rfl, h⟩
theorem pe_non {j pos} : PE X (.Constant .none j pos) (tC .non) := fun _ _ _ H _ I h => Constant_none ⟨.non, H, I, rfl, h⟩
theorem pe_str {x j pos} : PE X (.Constant (.str x) j pos) (tC (.str x)) := fun _ _ _ H _ I h => Calls.Constant_str ⟨.str x, H, I.tok _, ⟨_, rfl⟩, h⟩

/-- a global name of the def -/
noncomputable def Gl (X : Cx) (x : Str) : Prop := X.env.kindOf x = some .globalImplicit
theorem ld_glob {E : Value → Shared → Prop} {pins : List (Addr × Obj)} {s : Shared} {σ : St} {H : Hp} {x : Str} {u : Value} {pos : Pos} {Q : Value → Shared → Prop} (I : Inv X pins σ H s) (hg : Gl X x) (hm : X.mg x = some u) (h : Q u s)
    (hd : (x == ("__debug__" : Str)) = false := by decide) : wpAny (model X.prog X.w) X.A (eval (.Name x pos) X.env) Q E s :=
  Calls.Name_function_global I.ok.kind hg (Calls.loadGlobal_global (by rw [I.ok.glob]; exact I.mod.glob.keeps I.bk) hm h) hd
theorem ld_blt {E : Value → Shared → Prop} {pins : List (Addr × Obj)} {s : Shared} {σ : St} {H : Hp} {x : Str} {u : Value} {pos : Pos} {Q : Value → Shared → Prop} (I : Inv X pins σ H s) (hg : Gl X x) (hm : X.mg x = none) (hv : bootBuiltins x = some u) (h : Q u s)
    (hn : x ≠ "__name__" := by decide) (hd : (x == ("__debug__" : Str)) = false := by decide) : wpAny (model X.prog X.w) X.A (eval (.Name x pos) X.env) Q E s := by
  obtain ⟨mb, h1, h2⟩ := I.mod.blt
  exact Calls.Name_function_global I.ok.kind hg (Calls.loadGlobal_builtin (by rw [I.ok.glob]; exact I.mod.glob.keeps I.bk) hm (by rw [I.ok.blt]; exact h1.keeps I.bk) ((h2 x hn).trans hv) h) hd
/-- a module's constant, a class, a function, as a value -/
theorem pe_glob {x : Str} {v : V} {u : Value} {pos : Pos} (hg : Gl X x) (hm : X.mg x = some u) (r : RelV v u) (hd : (x == ("__debug__" : Str)) = false := by decide) : PE X (.Name x pos) (tC v) :=
  fun _ _ _ H _ I h => ld_glob I hg hm ⟨v, H, I, r, h⟩ hd
theorem pe_bltn {x : Str} {v : V} {u : Value} {pos : Pos} (hg : Gl X x) (hm : X.mg x = none) (hv : bootBuiltins x = some u) (r : RelV v u) (hn : x ≠ "__name__" := by decide) (hd : (x == ("__debug__" : Str)) = false := by decide) : PE X (.Name x pos) (tC v) :=
  fun _ _ _ H _ I h => ld_blt I hg hm hv ⟨v, H, I, r, h⟩ hn hd

/-! ### arithmetic -/
variable {a b : Expr} {ta tb : TE} {pos : Pos}
/-! ### comparisons -/
noncomputable def PC (X : Cx) (op : CmpOp) (a b : Expr) (t : TE) : Prop :=
  ∀ (pins : List (Addr × Obj)) (s : Shared) (σ : St) (H : Hp) (Q : VK), Inv X pins σ H s → t σ H Q →
    wpAny (model X.prog X.w) X.A (eval a X.env) (fun v s₁ => wpAny (model X.prog X.w) X.A (eval b X.env) (fun u s₂ => wpAny (model X.prog X.w) X.A (compareOp op v u) (EP X pins σ Q) X.xe s₂) X.xe s₁) X.xe s
theorem nobehind (b : Expr) {op : CmpOp} (h : op ≠ .In) (h2 : op ≠ .NotIn) : behindInMarks op b = false := by
  have e1 : (op == CmpOp.In) = false := by cases op <;> first | rfl | exact absurd rfl h
  have e2 : (op == CmpOp.NotIn) = false := by cases op <;> first | rfl | exact absurd rfl h2
  cases b <;> simp [behindInMarks, e1, e2]
/-- a comparison as a value, as a test -/
noncomputable def tB (t : TE) : TT := fun σ H Q => t σ H fun x H1 => ∃ c, x = .bl c ∧ Q c H1
theorem pt_cmp {op : CmpOp} {t : TE} (h : PC X op a b t) (h1 : behindInMarks op b = false := by first | exact nobehind _ (by decide) (by decide) | rfl) : PT X (.Compare a [op] [b] pos) (tB t) := by
  intro pins s σ H Q I hw
  refine wpAny_isTrue_Compare1 (thn (h pins s σ H _ I hw) fun v s1 h1 => thn h1 fun u s2 h2 => thn h2 fun c s3 ⟨x, H1, I1, r1, q1⟩ => ?_) h1
  obtain ⟨d, rfl, q⟩ := q1
  cases r1
  exact wpAny_truthy_bool ⟨H1, I1, q⟩
/-- an expression whose value is a bool, as a test -/
theorem pt_val {e : Expr} {t : TE} (h : PE X e t) (he : ∀ whole, isTrue e X.env whole = (do let v ← whole; standAt e.pos; holding [v] (truthy v)) := by intro _; rfl) : PT X e (tB t) := by
  intro pins s σ H Q I hw
  refine isTrue_plain (thn (h pins s σ H _ I hw) fun v s1 ⟨x, H1, I1, r1, q1⟩ => ?_) (he _)
  obtain ⟨d, rfl, q⟩ := q1
  cases r1
  exact wpAny_truthy_bool ⟨H1, I1, q⟩

/-! ### and, or, not -/
variable {tA tB' : TT} {rest : List Expr}
noncomputable def tAnd (t u : TT) : TT := fun σ H Q => t σ H fun c H1 => if c = true then u σ H1 Q else Q false H1
noncomputable def tOr (t u : TT) : TT := fun σ H Q => t σ H fun c H1 => if c = true then Q true H1 else u σ H1 Q
noncomputable def tNot (t : TT) : TT := fun σ H Q => t σ H fun c H1 => Q (!c) H1
theorem pw_and1 (ha : PT X a tA) : PW X (.BoolOp .And [a] pos) tA := by
  intro wh pins s σ H Q I h
  refine isTrue_and (thn (ha pins s σ H Q I h) fun c s1 e => ?_)
  cases c with
  | true => exact isTrue_and_nil e
  | false => exact e
theorem pw_or1 (ha : PT X a tA) : PW X (.BoolOp .Or [a] pos) tA := by
  intro wh pins s σ H Q I h
  refine isTrue_or (thn (ha pins s σ H Q I h) fun c s1 e => ?_)
  cases c with
  | false => exact isTrue_or_nil e
  | true => exact e
theorem pw_and (ha : PT X a tA) (hb : PW X (.BoolOp .And (b :: rest) pos) tB') : PW X (.BoolOp .And (a :: b :: rest) pos) (tAnd tA tB') := by
  intro wh pins s σ H Q I h
  refine isTrue_and (thn (ha pins s σ H _ I h) fun c s1 ⟨H1, I1, q1⟩ => ?_)
  cases c with
  | true => exact hb wh pins s1 σ H1 Q I1 q1
  | false => exact ⟨H1, I1, q1⟩
theorem pw_or (ha : PT X a tA) (hb : PW X (.BoolOp .Or (b :: rest) pos) tB') : PW X (.BoolOp .Or (a :: b :: rest) pos) (tOr tA tB') := by
  intro wh pins s σ H Q I h
  refine isTrue_or (thn (ha pins s σ H _ I h) fun c s1 ⟨H1, I1, q1⟩ => ?_)
  cases c with
  | true => exact ⟨H1, I1, q1⟩
  | false => exact hb wh pins s1 σ H1 Q I1 q1
theorem pt_not (ha : PT X a tA) : PT X (.UnaryOp .Not a pos) (tNot tA) := by
  intro pins s σ H Q I h
  exact isTrue_not (ha pins s σ H (fun c H1 => Q (!c) H1) I h)
/-- .. as values (bools) -/
noncomputable def tAndV (ta tb : TE) : TE := fun σ H Q => ta σ H fun x H1 => ∃ c, x = .bl c ∧ if c = true then tb σ H1 Q else Q (.bl false) H1
theorem pe_one {op} {t : TE} (h : PE X a t) : PE X (.BoolOp op [a] pos) t := fun pins s σ H Q I hw => BoolOp_one (h pins s σ H Q I hw)
theorem pe_and (ha : PE X a ta) (hb : PE X (.BoolOp .And (b :: rest) pos) tb) : PE X (.BoolOp .And (a :: b :: rest) pos) (tAndV ta tb) := by
  intro pins s σ H Q I h
  refine BoolOp_and (thn (ha pins s σ H _ I h) fun v s1 ⟨x, H1, I1, r1, q1⟩ => ?_)
  obtain ⟨c, rfl, q1⟩ := q1
  cases r1
  refine wpAny_truthy_bool ?_
  cases c with
  | true => exact hb pins s1 σ H1 Q I1 q1
  | false => exact ⟨.bl false, H1, I1, rfl, q1⟩
end
end L2

namespace L2
open PySem PySem.Spec PyProof.Rows

/-! ### a list, a tuple that is read: tracked, frozen, or an object of the module -/
noncomputable def SqL (K : PySem.W.Frag) (H : Hp) (a : Addr) (xs : List V) : Prop :=
  Rd H a (.lst xs) ∨
    ∃ (o : Obj) (its : Array Value) (n : Nat), K.lookup a = some o ∧ o.cls = .type "list" ∧ o.dict = none ∧ o.data = .seq its n ∧ its.size ≤ sizeLine ∧ Vals xs its.toList
noncomputable def SqT (K : PySem.W.Frag) (H : Hp) (a : Addr) (xs : List V) : Prop :=
  Rd H a (.tup xs) ∨
    ∃ (o : Obj) (its : Array Value) (n : Nat), K.lookup a = some o ∧ o.cls = .type "tuple" ∧ o.data = .seq its n ∧ its.size ≤ sizeLine ∧ Vals xs its.toList
noncomputable def absV : Value → Option V
  | .none => some .non
  | .bool b => some (.bl b)
  | .int i _ => some (.int i)
  | .str x _ => some (.str x)
  | .bytes b _ => some (.byt b)
  | .float b _ => some (.flt b)
  | .ref a => some (.ref a)
  | .type n => some (.ty n)
  | _ => none
theorem RelV.abs {x : V} {u : Value} (r : RelV x u) : absV u = some x := by
  cases x with
  | non => cases r; rfl
  | bl _ => cases r; rfl
  | int _ => obtain ⟨t, rfl⟩ := r; rfl
  | str _ => obtain ⟨t, rfl⟩ := r; rfl
  | byt _ => obtain ⟨t, rfl⟩ := r; rfl
  | flt _ => obtain ⟨t, rfl⟩ := r; rfl
  | ref _ => cases r; rfl
  | ty _ => cases r; rfl
theorem RelV.inj {x y : V} {u : Value} (r : RelV x u) (q : RelV y u) : x = y := Option.some.inj (r.abs.symm.trans q.abs)
theorem Vals.inj : ∀ {xs ys : List V} {us : List Value}, Vals xs us → Vals ys us → xs = ys
  | _, _, _, .nil, .nil => rfl
  | _, _, _, .cons r t, .cons r' t' => by rw [r.inj r', Vals.inj t t']
section
variable {X : Cx} {pins : List (Addr × Obj)} {σ : St} {H : Hp} {s : Shared} {a : Addr} {xs ys : List V}
theorem SqL.of {K : PySem.W.Frag} (h : H a = some (.lst xs)) : SqL K H a xs := .inl (.inl h)
theorem SqT.of {K : PySem.W.Frag} (h : H a = some (.tup xs)) : SqT K H a xs := .inl (.inl h)
theorem Inv.list (I : Inv X pins σ H s) (h : SqL X.K H a xs) : ∃ its : List Value, Vals xs its ∧ PlainL s.heap a its.toArray ∧ xs.length ≤ sizeLine := by
  rcases h with h | ⟨o, its, n, hk, hc, hd, hs, hz, r⟩
  · obtain ⟨z, its, n, r, e⟩ := h.ok I.hok
    exact ⟨its, r, ⟨_, n, e, rfl, rfl, rfl⟩, z⟩
  · refine ⟨its.toList, r, ⟨o, n, I.kIn a o hk, hc, hd, by simpa using hs⟩, ?_⟩
    have e := r.length
    simp only [Array.length_toList] at e
    omega
theorem Inv.tuple (I : Inv X pins σ H s) (h : SqT X.K H a xs) : ∃ its : List Value, Vals xs its ∧ IsTup s.heap a its.toArray ∧ xs.length ≤ sizeLine := by
  rcases h with h | ⟨o, its, n, hk, hc, hs, hz, r⟩
  · obtain ⟨z, its, r, p⟩ := h.ok I.hok
    exact ⟨its, r, p, z⟩
  · refine ⟨its.toList, r, ⟨o, I.kIn a o hk, hc, n, by simpa using hs⟩, ?_⟩
    have e := r.length
    simp only [Array.length_toList] at e
    omega
theorem Inv.list_inj (I : Inv X pins σ H s) (h : SqL X.K H a xs) (h' : SqL X.K H a ys) : xs = ys := by
  obtain ⟨its, r, ⟨o, n, e, _, _, d⟩, _⟩ := I.list h
  obtain ⟨its', r', ⟨o', n', e', _, _, d'⟩, _⟩ := I.list h'
  rw [e] at e'; cases e'
  rw [d] at d'
  injection d' with d1 _
  have : its = its' := by simpa using congrArg Array.toList d1
  subst this
  exact r.inj r'
end

/-! ### another wish about exceptions -/
noncomputable abbrev Cx.wish (X : Cx) (E : Value → Shared → Prop) : Cx := { X with xe := E }
/-- no exception leaves -/
noncomputable abbrev Cx.nox (X : Cx) : Cx := X.wish fun _ _ => False
theorem Cx.Ok.wish {X : Cx} (ok : X.Ok) (E : Value → Shared → Prop) : (X.wish E).Ok :=
  ⟨ok.mod, ok.kind, ok.glob, ok.blt, ok.above, ok.inj, ok.has, ok.cab, ok.hd, ok.frames, ok.stk, ok.exf, ok.bs, ok.bsz, ok.noex, ok.exfs, ok.funs, ok.frf⟩
theorem Cx.Ok.unwish {X : Cx} {E : Value → Shared → Prop} (ok : (X.wish E).Ok) : X.Ok :=
  ⟨ok.mod, ok.kind, ok.glob, ok.blt, ok.above, ok.inj, ok.has, ok.cab, ok.hd, ok.frames, ok.stk, ok.exf, ok.bs, ok.bsz, ok.noex, ok.exfs, ok.funs, ok.frf⟩
section
variable {X : Cx} {pins : List (Addr × Obj)} {σ : St} {H : Hp} {s : Shared} {E : Value → Shared → Prop}
theorem Inv.wish (I : Inv X pins σ H s) (E : Value → Shared → Prop) : Inv (X.wish E) pins σ H s := ⟨I.ok.wish E, I.os, I.bare, I.base, I.loc, I.cell, I.free, I.freeC, I.pin, I.hok, I.len⟩
theorem Inv.unwish (I : Inv (X.wish E) pins σ H s) : Inv X pins σ H s := ⟨I.ok.unwish, I.os, I.bare, I.base, I.loc, I.cell, I.free, I.freeC, I.pin, I.hok, I.len⟩
theorem SP.unwish {D : Ends} {f : Flow} {s' : Shared} (h : SP (X.wish E) pins D f s') : SP X pins D f s' := by
  cases f with
  | next => obtain ⟨σ', H', I, q⟩ := h; exact ⟨σ', H', I.unwish, q⟩
  | brk => obtain ⟨σ', H', I, q⟩ := h; exact ⟨σ', H', I.unwish, q⟩
  | cont => obtain ⟨σ', H', I, q⟩ := h; exact ⟨σ', H', I.unwish, q⟩
  | ret u => obtain ⟨v, σ', H', I, r, q⟩ := h; exact ⟨v, σ', H', I.unwish, r, q⟩
theorem PSs.nox {st : List Stmt} {t : TS} (h : PSs X.nox st t) : PSs X st t := fun pins s σ H D I hw =>
  wpAny_mono (h pins s σ H D (I.wish _) hw) (fun _ _ q => q.unwish) fun _ _ z => False.elim z
end

/-! ### blocks and small statements -/
section
variable {X : Cx} {st : Stmt} {rest : List Stmt} {t u : TS} {e : Expr} {te : TE} {pos : Pos}
noncomputable def tNext : TS := fun D σ H => D.nx σ H
noncomputable def tSeq (t u : TS) : TS := fun D σ H => t { D with nx := u D } σ H
theorem pss_nil : PSs X [] tNext := fun _ _ σ H _ I h => wpAny_execs_nil ⟨σ, H, I, h⟩
theorem pss_cons (h1 : PS X st t) (h2 : PSs X rest u) : PSs X (st :: rest) (tSeq t u) := by
  intro pins s σ H D I h
  refine wpAny_execs_cons (thn (h1 pins s σ H { D with nx := u D } I h) fun f s1 q => ?_)
  cases f with
  | next =>
    obtain ⟨σ', H', I', q⟩ := q
    exact h2 pins s1 σ' H' D I' q
  | ret v => exact q
  | brk => exact q
  | cont => exact q
theorem pss_one (h1 : PS X st t) : PSs X [st] t := by
  intro pins s σ H D I h
  refine wpAny_execs_cons (thn (h1 pins s σ H D I h) fun f s1 q => ?_)
  cases f with
  | next => exact wpAny_execs_nil q
  | ret v => exact q
  | brk => exact q
  | cont => exact q
/-- in a def's body nothing is shown -/
theorem Inv.quiet {pins : List (Addr × Obj)} {σ : St} {H : Hp} {s : Shared} (I : Inv X pins σ H s) : interactive X.env = false := by simp [interactive, I.ok.kind]
/-- an expression whose value is dropped -/
noncomputable def tDrop (te : TE) : TS := fun D σ H => te σ H fun _ H1 => D.nx σ H1
theorem ps_expr (he : PE X e te) (hs : swapsWith e none pos.line X.env = pure false := by rfl) : PS X (.Expr e pos) (tDrop te) := by
  intro pins s σ H D I h
  exact wpAny_Expr_any (thn (he pins s σ H _ I h) fun v s1 ⟨x, H1, I1, r1, q1⟩ => ⟨σ, H1, I1, q1⟩) I.quiet hs
noncomputable def tRet (te : TE) : TS := fun D σ H => te σ H D.rt
theorem ps_ret (he : PE X e te) : PS X (.Return (some e) pos) (tRet te) := by
  intro pins s σ H D I h
  exact wpAny_Return_some (thn (he pins s σ H _ I h) fun v s1 ⟨x, H1, I1, r1, q1⟩ => ⟨x, σ, H1, I1, r1, q1⟩)
noncomputable def tIfS (c : TT) (t u : TS) : TS := fun D σ H => c σ H fun b H1 => if b = true then t D σ H1 else u D σ H1
theorem ps_if {c : Expr} {a b : List Stmt} {tc : TT} (hc : PT X c tc) (ha : PSs X a t) (hb : PSs X b u) : PS X (.If c a b pos) (tIfS tc t u) := by
  intro pins s σ H D I h
  refine wpAny_If (thn (hc pins s σ H _ I h) fun d s1 ⟨H1, I1, q1⟩ => ?_)
  cases d with
  | true => exact ha pins s1 σ H1 D I1 q1
  | false => exact hb pins s1 σ H1 D I1 q1
/-- code that the proof never comes to -/
noncomputable def tNever : TS := fun _ _ _ => False
theorem pss_never {sts : List Stmt} : PSs X sts tNever := fun _ _ _ _ _ _ h => h.elim
end

/-! ### targets -/
noncomputable abbrev TG := V → St → Hp → (St → Hp → Prop) → Prop
noncomputable abbrev TGs := List V → St → Hp → (St → Hp → Prop) → Prop
noncomputable def PG (X : Cx) (target : Expr) (t : TG) : Prop :=
  ∀ (pins : List (Addr × Obj)) (s : Shared) (σ : St) (H : Hp) (v : V) (u : Value) (Q : St → Hp → Prop), Inv X pins σ H s → RelV v u → t v σ H Q →
    wpAny (model X.prog X.w) X.A (assign target X.env u) (fun _ s' => ∃ σ' H', Inv X pins σ' H' s' ∧ Q σ' H') X.xe s
/-- several targets, one after another -/
noncomputable def PGs (X : Cx) (ts : List Expr) (t : TGs) : Prop :=
  ∀ (pins : List (Addr × Obj)) (s : Shared) (σ : St) (H : Hp) (vs : List V) (us : List Value) (Q : St → Hp → Prop), Inv X pins σ H s → Vals vs us → t vs σ H Q →
    wpAny (model X.prog X.w) X.A (assignInOrder ((assignEach ts X.env).map (·.2)) us) (fun _ s' => ∃ σ' H', Inv X pins σ' H' s' ∧ Q σ' H') X.xe s
/-- o[i] = v, by values -/
noncomputable abbrev TSet := V → V → V → Hp → (Hp → Prop) → Prop
noncomputable def PSet (X : Cx) (t : TSet) : Prop :=
  ∀ (pins : List (Addr × Obj)) (s : Shared) (σ : St) (H : Hp) (o i v : V) (ov iv u : Value) (Q : Hp → Prop), Inv X pins σ H s → RelV o ov → RelV i iv → RelV v u → t o i v H Q →
    wpAny (model X.prog X.w) X.A (setItem ov iv u) (fun _ s' => ∃ H', Inv X pins σ H' s' ∧ Q H') X.xe s
section
variable {X : Cx} {pos : Pos}
noncomputable def gName (i : Nat) : TG := fun v σ H Q => Q (σ.set i (some v)) H
theorem pg_name {i : Nat} {x : Str} (hN : X.N.Nodup) (hi : X.N[i]? = some x) (hx : Loc X.env.scope x) (hf : X.fn x = true ∨ X.env.scope.names.lookup x = some .local := by first | exact .inl rfl | exact .inr rfl | assumption) : PG X (.Name x pos) (gName i) := by
  intro pins s σ H v u Q I r h
  exact wpAny_assign_Name (store_ok I hN hi hx r (fun s' I' => ⟨_, H, I', h⟩) hf)
noncomputable def gNil : TGs := fun vs σ H Q => vs = [] ∧ Q σ H
noncomputable def gCons (t : TG) (u : TGs) : TGs := fun vs σ H Q => ∃ v r, vs = v :: r ∧ t v σ H fun σ' H' => u r σ' H' Q
theorem pgs_nil : PGs X [] gNil := by
  intro pins s σ H vs us Q I r h
  obtain ⟨e, h⟩ := h
  subst e
  cases r
  exact assignInOrder_nil ⟨σ, H, I, h⟩
theorem pgs_cons {e : Expr} {es : List Expr} {t : TG} {u : TGs} (h1 : PG X e t) (h2 : PGs X es u)
    (hs : (assignEach (e :: es) X.env).map (·.2) = assign e X.env :: (assignEach es X.env).map (·.2) := by rfl) : PGs X (e :: es) (gCons t u) := by
  intro pins s σ H vs us Q I r h
  obtain ⟨v, vr, e1, h⟩ := h
  subst e1
  cases r with
  | cons r rr =>
    rw [hs]
    refine assignInOrder_cons (thn (h1 pins s σ H _ _ _ I r h) fun _ s1 ⟨σ1, H1, I1, q1⟩ => ?_)
    exact h2 pins s1 σ1 H1 _ _ Q I1 rr q1
/-- (a, b, ..) = a tuple of that length -/
noncomputable def gTup (K : PySem.W.Frag) (n : Nat) (t : TGs) : TG := fun v σ H Q => ∃ a xs, v = .ref a ∧ SqT K H a xs ∧ xs.length = n ∧ t xs σ H Q
theorem pg_tup {es : List Expr} {k : Nat} {t : TGs} {n : Nat} (hc : X.calm = true) (h : PGs X es t)
    (hn : (assignEach es X.env).length = n := by rfl) (hst : (assignEach es X.env).findIdx? (·.1) = none := by rfl) : PG X (.Tuple es k pos) (gTup X.K n t) := by
  intro pins s σ H v u Q I r hw
  obtain ⟨a, xs, e1, hq, hl, hw⟩ := hw
  subst e1
  cases r
  obtain ⟨its, rv, ht, hz⟩ := I.tuple hq
  refine assign_Tuple_tuple (I.ok.hd hc) ht (by simp [hn, ← hl, rv.length]) hst fun h' hx => ?_
  have I1 : Inv X pins σ H { s with heap := h' } := I.kept (t' := s.toks) fun b o e => hx b o (Nat.ne_of_lt (Heap.lt_size e)) e
  exact h pins _ σ H xs _ Q I1 (by simpa using rv) hw
/-- o[i] = .. -/
noncomputable def gSub (to ti : TE) (t : TSet) : TG := fun v σ H Q => to σ H fun o H1 => ti σ H1 fun i H2 => t o i v H2 fun H3 => Q σ H3
theorem pg_sub {o i : Expr} {to ti : TE} {t : TSet} (ho : PE X o to) (hi : PE X i ti) (hs : PSet X t)
    (ha : ∀ v, assign (.Subscript o i pos) X.env v = (do
      let ov ← holding [v] (eval o X.env)
      let iv ← holding [v, ov] (eval i X.env)
      standAt pos
      holding [v, ov, iv] (setItem ov iv v)
      release [v, ov, iv] []) := by intro _; rfl) : PG X (.Subscript o i pos) (gSub to ti t) := by
  intro pins s σ H v u Q I r h
  rw [ha]
  refine wpAny_bind (wpAny_holding (thn (ho pins s σ H _ I h) fun ov s1 ⟨x, H1, I1, r1, q1⟩ => ?_))
  refine wpAny_bind (wpAny_holding (thn (hi pins s1 σ H1 _ I1 q1) fun iv s2 ⟨y, H2, I2, r2, q2⟩ => ?_))
  refine wpAny_bind (wpAny_standAt (wpAny_bind (wpAny_holding (thn (hs pins s2 σ H2 x y v ov iv u _ I2 r1 r2 r q2) fun _ s3 ⟨H3, I3, q3⟩ => ?_))))
  exact wpAny_release ⟨σ, H3, I3, q3⟩
/-- target = value -/
noncomputable def tAsg (te : TE) (g : TG) : TS := fun D σ H => te σ H fun x H1 => g x σ H1 D.nx
theorem ps_asg {tg e : Expr} {te : TE} {g : TG} (he : PE X e te) (hg : PG X tg g) (hs : swapsWithSole [tg] e pos.line X.env = pure false := by rfl) (hw : swappedStores [tg] e X.env = pure none := by rfl)
    (h1 : (assignEach [tg] X.env).map (·.2) = [assign tg X.env] := by rfl) : PS X (.Assign [tg] e pos) (tAsg te g) := by
  intro pins s σ H D I h
  refine wpAny_Assign_stores (thn (he pins s σ H _ I h) fun v s1 ⟨x, H1, I1, r1, q1⟩ => ?_) hs hw
  rw [h1]
  exact thn (hg pins s1 σ H1 x v _ I1 r1 q1) fun _ s2 q => q
/-- name = value -/
theorem ps_set {i : Nat} {x : Str} {e : Expr} {te : TE} {pos' : Pos} (hN : X.N.Nodup) (hi : X.N[i]? = some x) (hx : Loc X.env.scope x) (he : PE X e te) (hs : swapsWith e (some (.Name x pos')) pos.line X.env = pure false := by rfl) (hf : X.fn x = true ∨ X.env.scope.names.lookup x = some .local := by first | exact .inl rfl | exact .inr rfl | assumption) :
    PS X (.Assign [.Name x pos'] e pos) (tAsg te (gName i)) := by
  intro pins s σ H D I h
  refine wpAny_Assign_Name (thn (he pins s σ H _ I h) fun v s1 ⟨y, H1, I1, r1, q1⟩ => ?_) hs
  exact store_ok I1 hN hi hx r1 (fun s2 I2 => ⟨_, H1, I2, q1⟩) hf
end

/-! ### while -/
section
variable {X : Cx} {pos : Pos}
/-- the invariant W with its measure -/
noncomputable def tWhile (c : TT) (tb : TS) : TS := fun D σ H => ∃ W : Nat → St → Hp → Prop, (∃ m, W m σ H) ∧ ∀ m σ H, W m σ H →
  c σ H fun b H1 => if b = true then ∃ N : St → Hp → Prop, (∀ σ' H', N σ' H' → ∃ m', m' < m ∧ W m' σ' H') ∧ tb { D with nx := N, ct := N, bk := D.nx } σ H1 else D.nx σ H1
theorem ps_while {c : Expr} {body : List Stmt} {tc : TT} {tb : TS} (hp : PassesOwn (model X.prog X.w) X.A X.env X.xe) (hc : PT X c tc) (hb : PSs X body tb) : PS X (.While c body [] pos) (tWhile tc tb) := by
  intro pins s σ H D I h
  obtain ⟨W, ⟨m0, w0⟩, turn⟩ := h
  refine wpAny_While (codeAny_whileLoop (fun n s' => ∃ σ' H', Inv X pins σ' H' s' ∧ W n σ' H') ?_ m0 ⟨σ, H, I, w0⟩)
  rintro n s1 ⟨σ1, H1, I1, w1⟩
  refine wpAny_passesOwn hp (thn (hc pins s1 σ1 H1 _ I1 (turn n σ1 H1 w1)) fun b s2 ⟨H2, I2, q2⟩ => ?_)
  cases b with
  | true =>
    obtain ⟨N, hN, q2⟩ := q2
    rw [if_pos rfl]
    refine wpAny_passesOwn hp (thn (hb pins s2 σ1 H2 _ I2 q2) fun f s3 q3 => ?_)
    cases f with
    | next =>
      obtain ⟨σ3, H3, I3, n3⟩ := q3
      obtain ⟨m', hm, w3⟩ := hN σ3 H3 n3
      exact ⟨m', hm, σ3, H3, I3, w3⟩
    | cont =>
      obtain ⟨σ3, H3, I3, n3⟩ := q3
      obtain ⟨m', hm, w3⟩ := hN σ3 H3 n3
      exact ⟨m', hm, σ3, H3, I3, w3⟩
    | brk => exact q3
    | ret v => exact q3
  | false =>
    rw [if_neg Bool.false_ne_true]
    exact wpAny_execs_nil ⟨σ1, H2, I2, q2⟩
end

/-! ### what a loop or a comprehension walks -/
/-- at turn i: it yields x (the heap may grow), or it stops -/
structure It where
  go : Nat → Hp → Prop
  yld : Nat → Hp → V → Hp → Prop
  stop : Nat → Hp → Prop
/-- the iterator's own objects may turn: they are not the frame's, not pinned, younger than the entry (or a comprehension's own) -/
noncomputable def FpOk (X : Cx) (pins : List (Addr × Obj)) (H : Hp) (b : Addr) : Prop :=
  H b = none ∧ b ≠ X.env.locals ∧ b ∉ X.fs ∧ (b ∈ X.ex ∨ X.s₀.heap.objs.size ≤ b) ∧ (∀ x c, X.env.cells.lookup x = some c → c ≠ b) ∧ ∀ p ∈ X.pn ++ pins, p.1 ≠ b
theorem Inv.fpOk {X : Cx} {pins : List (Addr × Obj)} {σ : St} {H H' : Hp} {s : Shared} {b : Addr} (I : Inv X pins σ H s) (hb : s.heap.objs.size ≤ b) (hn : H' b = none) : FpOk X pins H' b := by
  refine ⟨hn, Nat.ne_of_gt (Nat.lt_of_lt_of_le I.lt hb), I.nofs hb, .inr (Nat.le_trans I.sz hb), fun x c e z => ?_, fun p hp z => ?_⟩
  · obtain ⟨v, q⟩ := I.cell x c e
    exact absurd (Nat.lt_of_lt_of_le q.lt (by rw [z]; exact hb)) (Nat.lt_irrefl _)
  · exact absurd (Nat.lt_of_lt_of_le (Heap.lt_size (I.pin p hp).1) (by rw [z]; exact hb)) (Nat.lt_irrefl _)
structure Turn (P : Program) (w : World) (K : PySem.W.Frag) (tg : Expr) (J : It) (fp : List Addr) (it : Addr) (tn : Nat → Heap → Prop) : Prop where
  mem : it ∈ fp
  obj : ∀ i h, tn i h → ∀ b ∈ fp, ∃ o, h.get? b = some o ∧ ∀ v, o.data ≠ .cell v
  keep : ∀ i h h', tn i h → (∀ b ∈ fp, ∀ o, h.get? b = some o → h'.get? b = some o) → tn i h'
  item : ∀ (X : Cx), X.prog = P → X.w = w → X.K = K → X.calm = true → ∀ (i : Nat) (pins : List (Addr × Obj)) (s : Shared) (σ : St) (H : Hp) (E : Value → Shared → Prop), Inv X pins σ H s → (∀ b ∈ fp, FpOk X pins H b) → tn i s.heap → J.go i H →
    wpAny (model P w) X.A (pyNext (.ref it)) (fun r s1 => ∃ u, r = some u ∧
      wpAny (model P w) X.A (letOwnedTupleGo tg (.ref it) u) (fun _ s2 => ∃ x H', Inv X pins σ H' s2 ∧ RelV x u ∧ J.yld i H x H' ∧ tn (i + 1) s2.heap ∧ ∀ b ∈ fp, H' b = none) E s1) E s
  done : ∀ (X : Cx), X.prog = P → X.w = w → X.K = K → X.calm = true → ∀ (i : Nat) (pins : List (Addr × Obj)) (s : Shared) (σ : St) (H : Hp) (E : Value → Shared → Prop), Inv X pins σ H s → (∀ b ∈ fp, FpOk X pins H b) → tn i s.heap → J.stop i H →
    wpAny (model P w) X.A (pyNext (.ref it)) (fun r s1 => r = none ∧ Inv X pins σ H s1) E s
  self : ∀ (A : Around) (i : Nat) (s : Shared) (Q : Value → Shared → Prop) (E : Value → Shared → Prop), tn i s.heap → Q (.ref it) s → wpAny (model P w) A (pyIter (.ref it)) Q E s
noncomputable abbrev TI := St → Hp → (It → Hp → Prop) → Prop
/-- an iterator has come -/
noncomputable def PIE (X : Cx) (pins : List (Addr × Obj)) (σ : St) (tg : Expr) (R : It → Hp → Prop) (itv : Value) (s2 : Shared) : Prop :=
  ∃ (it : Addr) (fp : List Addr) (tn : Nat → Heap → Prop) (J : It) (H' : Hp), itv = .ref it ∧ Inv X pins σ H' s2 ∧ Turn X.prog X.w X.K tg J fp it tn ∧ tn 0 s2.heap ∧ (∀ b ∈ fp, FpOk X pins H' b) ∧ R J H'
noncomputable def PI (X : Cx) (tg iter : Expr) (wi : TI) : Prop :=
  ∀ (pins : List (Addr × Obj)) (s : Shared) (σ : St) (H : Hp) (R : It → Hp → Prop), Inv X pins σ H s → wi σ H R →
    wpAny (model X.prog X.w) X.A (eval iter X.env) (fun v s1 => wpAny (model X.prog X.w) X.A (pyIter v) (PIE X pins σ tg R) X.xe s1) X.xe s

/-- the step ahead of the store is nothing for an iterator that keeps no tuple -/
theorem go_of {M : Model} {A : Around} {E : Value → Shared → Prop} {s : Shared} {tg : Expr} {it : Addr} {u : Value} {o : Obj} {n : String} {vs : Array Value} {Q : Unit → Shared → Prop} (ho : s.heap.get? it = some o) (hc : o.cls = .type n) (hd : o.data = .fields vs)
    (hn : ["enumerate", "zip", "dict_itemiterator", "dict_reverseitemiterator", "odict_iterator", "itertools.zip_longest", "itertools.pairwise"].contains n = false) (hQ : Q () s) : wpAny M A (letOwnedTupleGo tg (.ref it) u) Q E s := by
  unfold letOwnedTupleGo
  cases tg <;> first
    | exact wpAny_pure hQ
    | (cases u <;> first
        | exact wpAny_pure hQ
        | (refine wpAny_bind (wpAny_load ho ?_)
           rw [hc, hd]
           show wpAny M A (if (["enumerate", "zip", "dict_itemiterator", "dict_reverseitemiterator", "odict_iterator", "itertools.zip_longest", "itertools.pairwise"].contains n && vs[0]? == some (rawInt _)) = true then _ else _) Q E s
           rw [if_neg (by intro h; rw [hn, Bool.false_and] at h; cases h)]
           exact wpAny_pure hQ))

/-- the list at a, as it stands at each turn (a loop may append to it) -/
noncomputable def Itl (K : PySem.W.Frag) (a : Addr) : It :=
  ⟨fun i H => ∃ xs x, SqL K H a xs ∧ xs[i]? = some x, fun i H x H' => H' = H ∧ ∀ xs, SqL K H a xs → xs[i]? = some x, fun i H => ∃ xs, SqL K H a xs ∧ xs.length ≤ i⟩
/-- lo, lo + 1, .. (n of them) -/
noncomputable def Itr (lo : Int) (n : Nat) : It := ⟨fun i _ => i < n, fun i H x H' => H' = H ∧ x = .int (lo + i), fun i _ => n ≤ i⟩
theorem turn_list {P : Program} {w : World} {K : PySem.W.Frag} {tg : Expr} (a it : Addr) : Turn P w K tg (Itl K a) [it] it (fun i h => h.IsListIter it a i) where
  mem := by simp
  obj := fun i h st b hb => by
    have e : b = it := by simpa using hb
    subst e
    obtain ⟨o, e, c, d⟩ := st
    exact ⟨o, e, fun v z => by rw [d] at z; cases z⟩
  keep := fun i h h' st k => st.at fun o e => k it (by simp) o e
  item := by
    intro X hP hw hK hc i pins s σ H E I hf st hg
    subst hP hw hK
    obtain ⟨xs, x, hq, hx⟩ := hg
    obtain ⟨its, rv, p, hz⟩ := I.list hq
    obtain ⟨u, hu, ru⟩ := rv.get hx
    obtain ⟨f0, f1, f2, f3, f4, f5⟩ := hf it (by simp)
    refine wpAny_pyNext_list_item st p.isList (x := u) (by simpa using hu) fun h' st' sb => ?_
    have I1 : Inv X pins σ H { s with heap := h' } := I.turned (t' := s.toks) (fun b o hb e => (sb.2 b hb).trans e) f0 f1 f3 f4 f5
    obtain ⟨o, e, c, d⟩ := id st'
    exact ⟨u, rfl, go_of (s := { s with heap := h' }) e c d (by decide) ⟨x, H, I1, ru, ⟨rfl, fun ys hy => by rw [I.list_inj hy hq]; exact hx⟩, st', fun b hb => (hf b hb).1⟩⟩
  done := by
    intro X hP hw hK hc i pins s σ H E I hf st hg
    subst hP hw hK
    obtain ⟨xs, hq, hx⟩ := hg
    obtain ⟨its, rv, p, hz⟩ := I.list hq
    obtain ⟨f0, f1, f2, f3, f4, f5⟩ := hf it (by simp)
    have hl := rv.length
    exact wpAny_pyNext_list_end (I.ok.hd hc) st p.isList (by simp; omega) fun h' eb => ⟨rfl, I.turned (t' := s.toks) (fun b o hb e => eb b o hb e) f0 f1 f3 f4 f5⟩
  self := fun _ _ _ _ _ st h => wpAny_pyIter_listiter st h
theorem turn_range {P : Program} {w : World} {K : PySem.W.Frag} {tg : Expr} (it : Addr) (lo : Int) (n : Nat) : Turn P w K tg (Itr lo n) [it] it (fun i h => IsRangeIter h it (lo + (i : Nat) * 1) ((n : Int) - (i : Nat)) 1) where
  mem := by simp
  obj := fun i h st b hb => by
    have e : b = it := by simpa using hb
    subst e
    exact ⟨_, st, fun v z => by
      have z' : Data.fields _ = Data.cell v := z
      cases z'⟩
  keep := fun i h h' st k => k it (by simp) _ st
  item := by
    intro X hP hw hK hc i pins s σ H E I hf st hg
    subst hP hw hK
    obtain ⟨f0, f1, f2, f3, f4, f5⟩ := hf it (by simp)
    have W := Walks.range (prog := X.prog) (w := X.w) (I.ok.hd hc) it lo 1 n
    refine W.item i s _ _ hg st fun v h' tk hv st' kk => ?_
    obtain ⟨t, rfl⟩ := hv
    have I1 : Inv X pins σ H { s with heap := h', toks := tk } := I.turned (fun b o hb e => kk b o (by simpa using hb) e) f0 f1 f3 f4 f5
    refine ⟨_, rfl, go_of (s := { s with heap := h', toks := tk }) (n := "range_iterator") st' rfl rfl (by decide) ⟨.int (lo + i), H, I1, ⟨t, ?_⟩, ⟨rfl, rfl⟩, st', fun b hb => (hf b hb).1⟩⟩
    rw [Int.mul_one]
  done := by
    intro X hP hw hK hc i pins s σ H E I hf st hg
    subst hP hw hK
    obtain ⟨f0, f1, f2, f3, f4, f5⟩ := hf it (by simp)
    exact wpAny_pyNext_range_end (I.ok.hd hc) st (by have : n ≤ i := hg; omega) fun h' eb => ⟨rfl, I.turned (t' := s.toks) (fun b o hb e => eb b o hb e) f0 f1 f3 f4 f5⟩
  self := fun _ _ _ _ _ st h => wpAny_pyIter_rangeiter st h
end L2

namespace L2
open PySem PySem.Spec PyProof.Rows
section
variable {X : Cx} {tg : Expr}
noncomputable def iList (K : PySem.W.Frag) (tl : TE) : TI := fun σ H R => tl σ H fun x H1 => ∃ a, x = .ref a ∧ (∃ xs, SqL K H1 a xs) ∧ R (Itl K a) H1
theorem pi_list {l : Expr} {tl : TE} (hl : PE X l tl) : PI X tg l (iList X.K tl) := by
  intro pins s σ H R I h
  refine thn (hl pins s σ H _ I h) fun v s1 ⟨x, H1, I1, r1, q1⟩ => ?_
  obtain ⟨a, e, ⟨xs, hq⟩, q⟩ := q1
  subst e
  cases r1
  obtain ⟨its, rv, p, hz⟩ := I1.list hq
  refine wpAny_pyIter_list p.isList ?_
  refine ⟨s1.heap.objs.size, [s1.heap.objs.size], _, _, H1, rfl, I1.kept (t' := s1.toks) fun b o e => Heap.get?_push_of_some _ e, turn_list a _, ⟨_, Heap.get?_push_size _ rfl, rfl, rfl⟩, fun b hb => ?_, q⟩
  have e : b = s1.heap.objs.size := by simpa using hb
  subst e
  exact I1.fpOk (Nat.le_refl _) (I1.hok.fresh (Nat.le_refl _))
/-- a range object just made, walked -/
theorem range_it {pins : List (Addr × Obj)} {σ : St} {H : Hp} {s : Shared} {R : It → Hp → Prop} {E : Value → Shared → Prop} {lo hi : Int} {t u v : Tok} {tk : Nat} (I : Inv X pins σ H s) (h1 : -(2 ^ 62) ≤ lo) (h2 : lo < 2 ^ 62) (h3 : -(2 ^ 62) ≤ hi) (h4 : hi < 2 ^ 62)
    (q : R (Itr lo (hi - lo).toNat) H) : wpAny (model X.prog X.w) X.A (pyIter (.ref s.heap.objs.size)) (PIE X pins σ tg R) E { s with heap := s.heap.push { cls := .type "range", data := .fields #[.int lo t, .int hi u, .int 1 v] }, toks := tk } := by
  refine wpAny_pyIter_range (IsRange.new ..) (small_one h1 h2 h3 h4) ?_
  have I1 : Inv X pins σ H { s with heap := s.heap.push { cls := .type "range", data := .fields #[.int lo t, .int hi u, .int 1 v] }, toks := tk } := I.kept fun b o e => Heap.get?_push_of_some _ e
  refine ⟨(s.heap.push { cls := .type "range", data := .fields #[.int lo t, .int hi u, .int 1 v] }).objs.size, [(s.heap.push { cls := .type "range", data := .fields #[.int lo t, .int hi u, .int 1 v] }).objs.size], _, _, H, rfl,
    I1.kept (t' := tk) fun b o e => Heap.get?_push_of_some _ e, turn_range _ lo (hi - lo).toNat, ?_, fun b hb => ?_, q⟩
  · have e1 : lo + ((0 : Nat) : Int) * 1 = lo := by simp
    have e2 : (((hi - lo).toNat : Nat) : Int) - ((0 : Nat) : Int) = Builtin.Range.rangeSize lo hi 1 := by rw [rangeSize_one]; split <;> omega
    show IsRangeIter _ _ (lo + ((0 : Nat) : Int) * 1) ((((hi - lo).toNat : Nat) : Int) - ((0 : Nat) : Int)) 1
    rw [e1, e2]
    exact Heap.get?_push_size _ rfl
  · have e : b = (s.heap.push { cls := .type "range", data := .fields #[.int lo t, .int hi u, .int 1 v] }).objs.size := by simpa using hb
    subst e
    exact I1.fpOk (Nat.le_refl _) (I1.hok.fresh (Nat.le_refl _))
noncomputable def iRng1 (ta : TA) : TI := fun σ H R => ta σ H fun vs H1 => ∃ j : Int, vs = [.int j] ∧ -(2 ^ 62) ≤ j ∧ j < 2 ^ 62 ∧ R (Itr 0 j.toNat) H1
noncomputable def iRng2 (ta : TA) : TI := fun σ H R => ta σ H fun vs H1 => ∃ i j : Int, vs = [.int i, .int j] ∧ (-(2 ^ 62) ≤ i ∧ i < 2 ^ 62 ∧ -(2 ^ 62) ≤ j ∧ j < 2 ^ 62) ∧ R (Itr i (j - i).toNat) H1
theorem pi_range1 {a : Expr} {ta : TA} {p pos : Pos} (hg : Gl X "range") (hm : X.mg "range" = none) (ha : PA X [a] ta) (hs : starEach [a] X.env = [(false, eval a X.env)] := by rfl) : PI X tg (.Call (.Name "range" p) [a] [] pos) (iRng1 ta) := by
  intro pins s σ H R I h
  refine Call_ (ld_blt I hg hm boot_range (PyProof.Rows.callWith_type1 (thn (ha pos pins s σ H _ I h) fun us s1 ⟨vs, H1, I1, r1, q1⟩ => ?_) hs rfl))
  obtain ⟨j, e, q1, q2, q⟩ := q1
  subst e
  cases r1 with
  | cons r rr =>
    cases rr
    obtain ⟨t, rfl⟩ := r
    exact call_range_1 (range_it I1 (by omega) (by omega) q1 q2 (by simpa using q))
theorem pi_range2 {a b : Expr} {ta : TA} {p pos : Pos} (hg : Gl X "range") (hm : X.mg "range" = none) (ha : PA X [a, b] ta) (hs : starEach [a, b] X.env = [(false, eval a X.env), (false, eval b X.env)] := by rfl) (hs2 : starEach [b] X.env = [(false, eval b X.env)] := by rfl) :
    PI X tg (.Call (.Name "range" p) [a, b] [] pos) (iRng2 ta) := by
  intro pins s σ H R I h
  refine Call_ (ld_blt I hg hm boot_range (PyProof.Rows.callWith_type1 (thn (ha pos pins s σ H _ I h) fun us s1 ⟨vs, H1, I1, r1, q1⟩ => ?_) (by rw [hs, hs2]) (by rw [hs2]; rfl)))
  obtain ⟨i, j, e, ⟨q1, q2, q3, q4⟩, q⟩ := q1
  subst e
  cases r1 with
  | cons r rr =>
    cases rr with
    | cons r' rr =>
      cases rr
      obtain ⟨t, rfl⟩ := r
      obtain ⟨t', rfl⟩ := r'
      exact call_range_2 (range_it I1 q1 q2 q3 q4 q)

/-! ### for -/
/-- W: the invariant by the turn and a measure; N: what the body is to reach -/
noncomputable def tFor (wi : TI) (g : TG) (tb : TS) : TS := fun D σ H => wi σ H fun J H1 => ∃ W : Nat → Nat → St → Hp → Prop, (∃ m, W 0 m σ H1) ∧ ∀ i m σ H, W i m σ H →
  (J.stop i H ∧ D.nx σ H) ∨ (J.go i H ∧ ∃ N : St → Hp → Prop, (∀ σ' H', N σ' H' → ∃ m', m' < m ∧ W (i + 1) m' σ' H') ∧ ∀ x H', J.yld i H x H' → g x σ H' fun σ2 H2 => tb { D with nx := N, ct := N, bk := D.nx } σ2 H2)
/-- the records at fp as they stand -/
noncomputable def pinsAt (fp : List Addr) (h : Heap) : List (Addr × Obj) := fp.filterMap fun b => (h.get? b).map fun o => (b, o)
theorem mem_pinsAt {fp : List Addr} {h : Heap} {b : Addr} {o : Obj} (hb : b ∈ fp) (e : h.get? b = some o) : (b, o) ∈ pinsAt fp h := List.mem_filterMap.mpr ⟨b, hb, by rw [e]; rfl⟩
theorem of_pinsAt {fp : List Addr} {h : Heap} {p : Addr × Obj} (hp : p ∈ pinsAt fp h) : p.1 ∈ fp ∧ h.get? p.1 = some p.2 := by
  obtain ⟨b, hb, e⟩ := List.mem_filterMap.mp hp
  cases q : h.get? b with
  | none => rw [q] at e; cases e
  | some o =>
    rw [q] at e
    have e' : (b, o) = p := Option.some.inj e
    subst e'
    exact ⟨hb, q⟩
theorem Inv.pinned {pins : List (Addr × Obj)} {σ : St} {H : Hp} {s : Shared} {fp : List Addr} (I : Inv X pins σ H s) (hf : ∀ b ∈ fp, FpOk X pins H b) (ho : ∀ b ∈ fp, ∃ o, s.heap.get? b = some o ∧ ∀ v, o.data ≠ .cell v) : Inv X (pins ++ pinsAt fp s.heap) σ H s :=
  I.pins_of fun p hp => (List.mem_append.mp hp).elim (fun z => I.pin p (List.mem_append_right _ z)) fun z => by
    obtain ⟨hb, e⟩ := of_pinsAt z
    obtain ⟨f0, f1, f2, _⟩ := hf p.1 hb
    obtain ⟨o, e', d⟩ := ho p.1 hb
    rw [e] at e'; cases e'
    exact ⟨e, f0, f1, f2, d⟩
theorem Inv.unpinned {pins pl : List (Addr × Obj)} {σ : St} {H : Hp} {s : Shared} (I : Inv X (pins ++ pl) σ H s) : Inv X pins σ H s := I.pins_of fun p hp => I.pin p (List.mem_append_right _ (List.mem_append_left _ hp))
theorem ps_for {iter : Expr} {body : List Stmt} {wi : TI} {g : TG} {tb : TS} {pos : Pos} (hp : PassesOwn (model X.prog X.w) X.A X.env X.xe) (hc : X.calm = true) (hi : PI X tg iter wi) (hg : PG X tg g) (hb : PSs X body tb)
    (hs : ∀ x, foldedSetIterable iter X.env x = pure x := by intro _; rfl) : PS X (.For tg iter body [] pos) (tFor wi g tb) := by
  intro pins s σ H D I h
  refine wpAny_For (thn (hi pins s σ H _ I h) fun v s1 h1 => thn h1 fun itv s2 h2 => ?_) hs
  obtain ⟨it, fp, tn, J, H2, e, I2, T, st2, f2, W, ⟨m0, w0⟩, turn⟩ := h2
  subst e
  -- what stays true of the iterator's objects through the loop
  have stat : ∀ {H' : Hp}, (∀ b ∈ fp, H' b = none) → ∀ b ∈ fp, FpOk X pins H' b := fun hn b hb => ⟨hn b hb, (f2 b hb).2⟩
  refine codeAny_forLoop_any (fun n s' => ∃ i σ' H', Inv X pins σ' H' s' ∧ tn i s'.heap ∧ (∀ b ∈ fp, H' b = none) ∧ W i n σ' H') ?_ m0 ⟨0, σ, H2, I2, st2, fun b hb => (f2 b hb).1, w0⟩
  rintro n s3 ⟨i, σ3, H3, I3, st3, fr3, w3⟩
  rcases turn i n σ3 H3 w3 with ⟨stop, qn⟩ | ⟨go, N, hN, step⟩
  · refine wpAny_passesOwn hp (thn (T.done X rfl rfl rfl hc i pins s3 σ3 H3 X.xe I3 (stat fr3) st3 stop) fun r s4 ⟨hr, I4⟩ => ?_)
    subst hr
    exact wpAny_execs_nil ⟨σ3, H3, I4, qn⟩
  · refine wpAny_passesOwn hp (thn (T.item X rfl rfl rfl hc i pins s3 σ3 H3 X.xe I3 (stat fr3) st3 go) fun r s4 ⟨u, hr, h4⟩ => ?_)
    subst hr
    refine wpAny_passesOwn hp (thn h4 fun _ s5 ⟨x, H5, I5, r5, y5, st5, fr5⟩ => ?_)
    have I5' := I5.pinned (stat fr5) (T.obj _ _ st5)
    refine wpAny_passesOwn hp (thn (hg _ s5 σ3 H5 x u _ I5' r5 (step x H5 y5)) fun _ s6 ⟨σ6, H6, I6, q6⟩ => ?_)
    refine wpAny_passesOwn hp (thn (hb _ s6 σ6 H6 _ I6 q6) fun f s7 q7 => ?_)
    have again : ∀ {σ7 : St} {H7 : Hp}, Inv X (pins ++ pinsAt fp s5.heap) σ7 H7 s7 → N σ7 H7 → ∃ m, m < n ∧ ∃ i σ' H', Inv X pins σ' H' s7 ∧ tn i s7.heap ∧ (∀ b ∈ fp, H' b = none) ∧ W i m σ' H' := fun {σ7 H7} I7 n7 => by
      obtain ⟨m', hm, w7⟩ := hN σ7 H7 n7
      refine ⟨m', hm, i + 1, σ7, H7, I7.unpinned, T.keep _ _ _ st5 fun b hb o e => (I7.pin (b, o) (List.mem_append_right _ (List.mem_append_right _ (mem_pinsAt hb e)))).1, fun b hb => ?_, w7⟩
      obtain ⟨o, e, d⟩ := T.obj _ _ st5 b hb
      exact (I7.pin (b, o) (List.mem_append_right _ (List.mem_append_right _ (mem_pinsAt hb e)))).2.1
    cases f with
    | next => obtain ⟨σ7, H7, I7, n7⟩ := q7; exact again I7 n7
    | cont => obtain ⟨σ7, H7, I7, n7⟩ := q7; exact again I7 n7
    | brk => obtain ⟨σ7, H7, I7, q7⟩ := q7; exact ⟨σ7, H7, I7.unpinned, q7⟩
    | ret v => obtain ⟨x7, σ7, H7, I7, r7, q7⟩ := q7; exact ⟨x7, σ7, H7, I7.unpinned, r7, q7⟩
end

/-! ### the forms one uses -/
/-- over a list that the body leaves as it is -/
theorem for_list {K : PySem.W.Frag} {a : Addr} {xs : List V} {g : TG} {tb : TS} {D : Ends} {σ : St} {H : Hp} (Pv : Nat → St → Hp → Prop) (h0 : Pv 0 σ H) (hl : ∀ i σ H, i ≤ xs.length → Pv i σ H → SqL K H a xs)
    (hs : ∀ i x σ H, xs[i]? = some x → Pv i σ H → g x σ H fun σ2 H2 => tb { D with nx := Pv (i + 1), ct := Pv (i + 1), bk := D.nx } σ2 H2) (hd : ∀ σ H, Pv xs.length σ H → D.nx σ H) :
    ∃ W : Nat → Nat → St → Hp → Prop, (∃ m, W 0 m σ H) ∧ ∀ i m σ H, W i m σ H →
      ((Itl K a).stop i H ∧ D.nx σ H) ∨ ((Itl K a).go i H ∧ ∃ N : St → Hp → Prop, (∀ σ' H', N σ' H' → ∃ m', m' < m ∧ W (i + 1) m' σ' H') ∧ ∀ x H', (Itl K a).yld i H x H' → g x σ H' fun σ2 H2 => tb { D with nx := N, ct := N, bk := D.nx } σ2 H2) := by
  refine ⟨fun i m σ H => m = xs.length - i ∧ i ≤ xs.length ∧ Pv i σ H, ⟨xs.length, by simp, Nat.zero_le _, h0⟩, ?_⟩
  rintro i m σ H ⟨rfl, hi, p⟩
  have q := hl i σ H hi p
  by_cases hlt : i < xs.length
  · refine .inr ⟨⟨xs, xs[i], q, by simp [hlt]⟩, Pv (i + 1), fun σ' H' p' => ⟨xs.length - (i + 1), by omega, rfl, hlt, p'⟩, fun x H' y => ?_⟩
    obtain ⟨e, y⟩ := y
    subst e
    exact hs i x σ _ (y xs q) p
  · have e : i = xs.length := by omega
    subst e
    exact .inl ⟨⟨xs, q, Nat.le_refl _⟩, hd σ H p⟩
theorem for_range {lo : Int} {n : Nat} {g : TG} {tb : TS} {D : Ends} {σ : St} {H : Hp} (Pv : Nat → St → Hp → Prop) (h0 : Pv 0 σ H)
    (hs : ∀ i σ H, i < n → Pv i σ H → g (.int (lo + i)) σ H fun σ2 H2 => tb { D with nx := Pv (i + 1), ct := Pv (i + 1), bk := D.nx } σ2 H2) (hd : ∀ σ H, Pv n σ H → D.nx σ H) :
    ∃ W : Nat → Nat → St → Hp → Prop, (∃ m, W 0 m σ H) ∧ ∀ i m σ H, W i m σ H →
      ((Itr lo n).stop i H ∧ D.nx σ H) ∨ ((Itr lo n).go i H ∧ ∃ N : St → Hp → Prop, (∀ σ' H', N σ' H' → ∃ m', m' < m ∧ W (i + 1) m' σ' H') ∧ ∀ x H', (Itr lo n).yld i H x H' → g x σ H' fun σ2 H2 => tb { D with nx := N, ct := N, bk := D.nx } σ2 H2) := by
  refine ⟨fun i m σ H => m = n - i ∧ i ≤ n ∧ Pv i σ H, ⟨n, by simp, Nat.zero_le _, h0⟩, ?_⟩
  rintro i m σ H ⟨rfl, hi, p⟩
  by_cases hlt : i < n
  · refine .inr ⟨hlt, Pv (i + 1), fun σ' H' p' => ⟨n - (i + 1), by omega, rfl, hlt, p'⟩, fun x H' y => ?_⟩
    obtain ⟨e, y⟩ := y
    subst e y
    exact hs i σ _ hlt p
  · have e : i = n := by omega
    subst e
    exact .inl ⟨Nat.le_refl _, hd σ H p⟩
end L2

namespace L2
open PySem PySem.Spec PyProof.Rows

noncomputable abbrev R2 := V → V → Hp → VK → Prop
/-- a two-place operation on values: f is binaryOp op, inplaceOp op or compareOp op -/
noncomputable def OpR (X : Cx) (f : Value → Value → Sem Value) (r : R2) : Prop :=
  ∀ (pins : List (Addr × Obj)) (s : Shared) (σ : St) (H : Hp) (x y : V) (v u : Value) (Q : VK), Inv X pins σ H s → RelV x v → RelV y u → r x y H Q →
    wpAny (model X.prog X.w) X.A (f v u) (EP X pins σ Q) X.xe s
/-- a one-place operation -/
noncomputable def UnR (X : Cx) (f : Value → Sem Value) (r : V → Hp → VK → Prop) : Prop :=
  ∀ (pins : List (Addr × Obj)) (s : Shared) (σ : St) (H : Hp) (x : V) (v : Value) (Q : VK), Inv X pins σ H s → RelV x v → r x H Q →
    wpAny (model X.prog X.w) X.A (f v) (EP X pins σ Q) X.xe s
/-- a call of a value that is known (a builtin, a type) with values -/
noncomputable def CallR (X : Cx) (f : Value) (r : List V → Hp → VK → Prop) : Prop :=
  ∀ (pins : List (Addr × Obj)) (s : Shared) (σ : St) (H : Hp) (xs : List V) (us : List Value) (Q : VK), Inv X pins σ H s → Vals xs us → r xs H Q →
    wpAny (model X.prog X.w) X.A (call f us) (EP X pins σ Q) X.xe s
noncomputable def tOp (r : R2) (ta tb : TE) : TE := fun σ H Q => ta σ H fun x H1 => tb σ H1 fun y H2 => r x y H2 Q
noncomputable def tUn (r : V → Hp → VK → Prop) (ta : TE) : TE := fun σ H Q => ta σ H fun x H1 => r x H1 Q
/-- ints in, under C, and a value out -/
noncomputable def rI (C : Int → Int → Prop) (g : Int → Int → V) : R2 := fun x y H Q => ∃ i j, x = .int i ∧ y = .int j ∧ C i j ∧ Q (g i j) H
noncomputable def rI0 (g : Int → Int → V) : R2 := fun x y H Q => ∃ i j, x = .int i ∧ y = .int j ∧ Q (g i j) H
noncomputable def rU (g : Int → V) : V → Hp → VK → Prop := fun x H Q => ∃ i, x = .int i ∧ Q (g i) H

section
variable {X : Cx} {a b c : Expr} {ta tb tc : TE} {pos : Pos}

theorem binT (ha : PE X a ta) (hb : PE X b tb) {pins : List (Addr × Obj)} {s : Shared} {σ : St} {H : Hp} {R : V → V → Hp → Prop} (I : Inv X pins σ H s)
    (h : ta σ H fun x H1 => tb σ H1 fun y H2 => R x y H2) {Q : Value → Shared → Prop} {f : Value → Value → Sem Value}
    (hf : ∀ v u s2 x y H2, Inv X pins σ H2 s2 → RelV x v → RelV y u → R x y H2 → wpAny (model X.prog X.w) X.A (f v u) Q X.xe s2) :
    wpAny (model X.prog X.w) X.A (eval a X.env) (fun v s₁ => wpAny (model X.prog X.w) X.A (eval b X.env) (fun u s₂ => wpAny (model X.prog X.w) X.A (f v u) Q X.xe s₂) X.xe s₁) X.xe s := by
  refine thn (ha pins s σ H _ I h) fun v s1 ⟨x, H1, I1, r1, q1⟩ => ?_
  refine thn (hb pins s1 σ H1 _ I1 q1) fun u s2 ⟨y, H2, I2, r2, q2⟩ => ?_
  exact hf v u s2 x y H2 I2 r1 r2 q2

theorem pe_op {op : Operator} {r : R2} (ho : OpR X (binaryOp op) r) (ha : PE X a ta) (hb : PE X b tb) : PE X (.BinOp a op b pos) (tOp r ta tb) := by
  intro pins s σ H Q I h
  exact wpAny_BinOp (binT ha hb I h fun v u s2 x y H2 I2 rx ry q => ho pins s2 σ H2 x y v u Q I2 rx ry q)
theorem pe_un {op : UnaryOp} {r : V → Hp → VK → Prop} (ho : UnR X (unaryOp op) r) (ha : PE X a ta) : PE X (.UnaryOp op a pos) (tUn r ta) := by
  intro pins s σ H Q I h
  exact UnaryOp_ (thn (ha pins s σ H _ I h) fun v s1 ⟨x, H1, I1, r1, q1⟩ => ho pins s1 σ H1 x v Q I1 r1 q1)
/-! ### ints -/
theorem opI {f : Value → Value → Sem Value} {C : Int → Int → Prop} {g : Int → Int → Int}
    (rule : ∀ (i j : Int) (t u : Tok) (s : Shared) (Q : Value → Shared → Prop) (E : Value → Shared → Prop), C i j → Q (.int (g i j) s.toks) { s with toks := s.toks + 1 } → wpAny (model X.prog X.w) X.A (f (.int i t) (.int j u)) Q E s) :
    OpR X f (rI C fun i j => .int (g i j)) := by
  intro pins s σ H x y v u Q I rx ry h
  obtain ⟨i, j, rfl, rfl, hc, q⟩ := h
  obtain ⟨t, rfl⟩ := rx
  obtain ⟨t', rfl⟩ := ry
  exact rule i j t t' s _ _ hc ⟨.int (g i j), H, I.tok _, ⟨_, rfl⟩, q⟩
theorem opI0 {f : Value → Value → Sem Value} {g : Int → Int → Int}
    (rule : ∀ (i j : Int) (t u : Tok) (s : Shared) (Q : Value → Shared → Prop) (E : Value → Shared → Prop), Q (.int (g i j) s.toks) { s with toks := s.toks + 1 } → wpAny (model X.prog X.w) X.A (f (.int i t) (.int j u)) Q E s) :
    OpR X f (rI0 fun i j => .int (g i j)) := by
  intro pins s σ H x y v u Q I rx ry h
  obtain ⟨i, j, rfl, rfl, q⟩ := h
  obtain ⟨t, rfl⟩ := rx
  obtain ⟨t', rfl⟩ := ry
  exact rule i j t t' s _ _ ⟨.int (g i j), H, I.tok _, ⟨_, rfl⟩, q⟩
theorem opB0 {f : Value → Value → Sem Value} {g : Int → Int → Bool}
    (rule : ∀ (i j : Int) (t u : Tok) (s : Shared) (Q : Value → Shared → Prop) (E : Value → Shared → Prop), Q (.bool (g i j)) s → wpAny (model X.prog X.w) X.A (f (.int i t) (.int j u)) Q E s) :
    OpR X f (rI0 fun i j => .bl (g i j)) := by
  intro pins s σ H x y v u Q I rx ry h
  obtain ⟨i, j, rfl, rfl, q⟩ := h
  obtain ⟨t, rfl⟩ := rx
  obtain ⟨t', rfl⟩ := ry
  exact rule i j t t' s _ _ ⟨.bl (g i j), H, I, rfl, q⟩

noncomputable def CPow (i j : Int) : Prop := 0 ≤ j ∧ j ≤ 1000000 ∧ i.natAbs < 2 ^ 64
noncomputable def CMul (i j : Int) : Prop := (-(2 ^ 64) < i ∧ i < 2 ^ 64) ∨ (-(2 ^ 64) < j ∧ j < 2 ^ 64)
theorem CMul.ok {i j : Int} (h : CMul i j) : IntMulOk i j := by
  rcases h with ⟨h1, h2⟩ | ⟨h1, h2⟩
  · exact .of_left (intBits_le_64 h1 h2)
  · exact .of_right (intBits_le_64 h1 h2)
theorem op_add : OpR X (binaryOp .Add) (rI0 fun i j => .int (i + j)) := opI0 fun _ _ _ _ _ _ _ q => add_int q
theorem op_sub : OpR X (binaryOp .Sub) (rI0 fun i j => .int (i - j)) := opI0 fun _ _ _ _ _ _ _ q => sub_int q
theorem op_mul : OpR X (binaryOp .Mult) (rI CMul fun i j => .int (i * j)) := opI fun _ _ _ _ _ _ _ hc q => mul_int q hc.ok
/-- % by a positive divisor of any size -/
theorem op_mod : OpR X (binaryOp .Mod) (rI (fun _ j => 0 < j) fun i j => .int (i % j)) := opI fun i j _ _ _ _ _ hc q => by
  have h1 : (0 : Int) < j := hc
  exact mod_int' (by omega) (by rw [Int.fmod_eq_emod_of_nonneg i (by omega)]; exact q)
theorem op_pow : OpR X (binaryOp .Pow) (rI CPow fun i j => .int (i ^ j.toNat)) := opI fun _ _ _ _ _ _ _ hc q => pow_int_small hc.1 hc.2.1 hc.2.2 q
theorem unI {f : Value → Sem Value} {g : Int → Int}
    (rule : ∀ (i : Int) (t : Tok) (s : Shared) (Q : Value → Shared → Prop) (E : Value → Shared → Prop), Q (.int (g i) s.toks) { s with toks := s.toks + 1 } → wpAny (model X.prog X.w) X.A (f (.int i t)) Q E s) :
    UnR X f (rU fun i => .int (g i)) := by
  intro pins s σ H x v Q I rx h
  obtain ⟨i, rfl, q⟩ := h
  obtain ⟨t, rfl⟩ := rx
  exact rule i t s _ _ ⟨.int (g i), H, I.tok _, ⟨_, rfl⟩, q⟩
theorem un_neg : UnR X (unaryOp .USub) (rU fun i => .int (-i)) := unI fun _ _ _ _ _ q => neg_int q
/-! ### bools among ints: n += (a < b) -/
end

/-! ### comparisons -/
/-- the scalars that == tells apart as data does -/
noncomputable def scal : V → V → Bool
  | .non, .non => true | .non, .int _ => true | .int _, .non => true | .non, .bl _ => true | .bl _, .non => true | .non, .str _ => true | .str _, .non => true
  | .int _, .int _ => true | .bl _, .bl _ => true | .str _, .str _ => true | .byt _, .byt _ => true
  | .int _, .str _ => true | .str _, .int _ => true | .bl _, .str _ => true | .str _, .bl _ => true
  | _, _ => false
noncomputable def rEq : R2 := fun x y H Q => scal x y = true ∧ Q (.bl (decide (x = y))) H
theorem dec_int {i j : Int} : decide (V.int i = V.int j) = (i == j) := by
  rw [Bool.eq_iff_iff]
  simp
theorem dec_bl {i j : Bool} : decide (V.bl i = V.bl j) = (i == j) := by
  rw [Bool.eq_iff_iff]
  simp
theorem dec_str {i j : Str} : decide (V.str i = V.str j) = (i == j) := by
  rw [Bool.eq_iff_iff]
  simp
theorem dec_byt {i j : Array UInt8} : decide (V.byt i = V.byt j) = (i.toList == j.toList) := by
  rw [Bool.eq_iff_iff]
  cases i
  cases j
  simp

section
variable {X : Cx} {a b c : Expr} {ta tb tc : TE} {pos : Pos}
theorem fin_bl {pins : List (Addr × Obj)} {σ : St} {H : Hp} {s : Shared} {Q : VK} {k k' : Bool} (I : Inv X pins σ H s) (q : Q (.bl k) H) (e : k = k') : EP X pins σ Q (.bool k') s := by
  subst e
  exact ⟨.bl k, H, I, rfl, q⟩
theorem op_eq : OpR X (compareOp .Eq) rEq := by
  intro pins s σ H x y v u Q I rx ry h
  obtain ⟨hs, q⟩ := h
  cases x with
  | non =>
    cases rx
    cases y with
    | non => cases ry; exact PySem.EqNone.eq_none_none (fin_bl I q (by simp))
    | bl j => cases ry; exact PySem.EqNone.eq_none_bool (fin_bl I q (by simp))
    | int j => obtain ⟨t', rfl⟩ := ry; exact PySem.EqNone.eq_none_int (fin_bl I q (by simp))
    | str j => obtain ⟨t', rfl⟩ := ry; exact PySem.EqNone.eq_none_str (fin_bl I q (by simp))
    | _ => exact absurd (show false = true from hs) Bool.false_ne_true
  | bl i =>
    cases rx
    cases y with
    | non => cases ry; exact PySem.EqNone.eq_bool_none (fin_bl I q (by simp))
    | bl j => cases ry; exact eq_bool (fin_bl I q dec_bl)
    | str j => obtain ⟨t', rfl⟩ := ry; exact PySem.EqMixed.eq_bool_str (fin_bl I q (by simp))
    | _ => exact absurd (show false = true from hs) Bool.false_ne_true
  | int i =>
    obtain ⟨t, rfl⟩ := rx
    cases y with
    | non => cases ry; exact PySem.EqNone.eq_int_none (fin_bl I q (by simp))
    | int j => obtain ⟨t', rfl⟩ := ry; exact eq_int (fin_bl I q dec_int)
    | str j => obtain ⟨t', rfl⟩ := ry; exact PySem.EqMixed.eq_int_str (fin_bl I q (by simp))
    | _ => exact absurd (show false = true from hs) Bool.false_ne_true
  | str i =>
    obtain ⟨t, rfl⟩ := rx
    cases y with
    | non => cases ry; exact PySem.EqNone.eq_str_none (fin_bl I q (by simp))
    | bl j => cases ry; exact PySem.EqMixed.eq_str_bool (fin_bl I q (by simp))
    | int j => obtain ⟨t', rfl⟩ := ry; exact PySem.EqMixed.eq_str_int (fin_bl I q (by simp))
    | str j => obtain ⟨t', rfl⟩ := ry; exact eq_str (fin_bl I q dec_str)
    | _ => exact absurd (show false = true from hs) Bool.false_ne_true
  | byt i =>
    obtain ⟨t, rfl⟩ := rx
    cases y with
    | byt j => obtain ⟨t', rfl⟩ := ry; exact PySem.W.eq_bytes (fin_bl I q dec_byt)
    | _ => exact absurd (show false = true from hs) Bool.false_ne_true
  | _ => cases y <;> exact absurd (show false = true from hs) Bool.false_ne_true
theorem op_lt : OpR X (compareOp .Lt) (rI0 fun i j => .bl (decide (i < j))) := opB0 fun _ _ _ _ _ _ _ q => lt_int q
theorem op_le : OpR X (compareOp .LtE) (rI0 fun i j => .bl (decide (i ≤ j))) := opB0 fun _ _ _ _ _ _ _ q => le_int q
theorem op_gt : OpR X (compareOp .Gt) (rI0 fun i j => .bl (decide (j < i))) := opB0 fun _ _ _ _ _ _ _ q => gt_int q
theorem op_ge : OpR X (compareOp .GtE) (rI0 fun i j => .bl (decide (j ≤ i))) := opB0 fun _ _ _ _ _ _ _ q => ge_int q
theorem nomark (b : Expr) {op : CmpOp} (h : op ≠ .In := by decide) (h2 : op ≠ .NotIn := by decide) : behindInMarks op b = false := by
  have e1 : (op == CmpOp.In) = false := by cases op <;> first | rfl | exact absurd rfl h
  have e2 : (op == CmpOp.NotIn) = false := by cases op <;> first | rfl | exact absurd rfl h2
  cases b <;> simp [behindInMarks, e1, e2]
/-- a comparison as a value; hm: nomark b, or (for in, not in) by with_unfolding_all rfl -/
theorem pe_cmpR {op : CmpOp} {r : R2} (ho : OpR X (compareOp op) r) (ha : PE X a ta) (hb : PE X b tb) (hm : behindInMarks op b = false) : PE X (.Compare a [op] [b] pos) (tOp r ta tb) := by
  intro pins s σ H Q I h
  exact wpAny_Compare1 (binT ha hb I h fun v u s2 x y H2 I2 rx ry q => ho pins s2 σ H2 x y v u Q I2 rx ry q) hm
/-- a reading of a value as a test -/
noncomputable def tTest (t : TE) : TT := fun σ H Q => t σ H fun x H' => ∃ k, x = .bl k ∧ Q k H'
theorem pt_cmpR {op : CmpOp} {r : R2} (ho : OpR X (compareOp op) r) (ha : PE X a ta) (hb : PE X b tb) (hm : behindInMarks op b = false) : PT X (.Compare a [op] [b] pos) (tTest (tOp r ta tb)) := by
  intro pins s σ H Q I h
  refine wpAny_isTrue_Compare1 (thn (ha pins s σ H _ I h) fun v s1 ⟨x, H1, I1, r1, q1⟩ => thn (hb pins s1 σ H1 _ I1 q1) fun u s2 ⟨y, H2, I2, r2, q2⟩ =>
    thn (ho pins s2 σ H2 x y v u _ I2 r1 r2 q2) fun c s3 ⟨z, H3, I3, r3, k, e, q3⟩ => ?_) hm
  subst e
  cases r3
  exact wpAny_truthy_bool ⟨H3, I3, q3⟩
/-- a op1 b op2 c -/
noncomputable def tChain (r r' : R2) (ta tb tc : TE) : TE := fun σ H Q => ta σ H fun x H1 => tb σ H1 fun y H2 => r x y H2 fun z H3 => ∃ k, z = .bl k ∧
  (if k = true then tc σ H3 fun w' H4 => r' y w' H4 Q else Q (.bl false) H3)
theorem pe_chain {op op' : CmpOp} {r r' : R2} (ho : OpR X (compareOp op) r) (ho' : OpR X (compareOp op') r') (ha : PE X a ta) (hb : PE X b tb) (hc : PE X c tc)
    (hm : lastMarks [op, op'] [b, c] = false := by with_unfolding_all rfl) : PE X (.Compare a [op, op'] [b, c] pos) (tChain r r' ta tb tc) := by
  intro pins s σ H Q I h
  refine Compare_chain (thn (ha pins s σ H _ I h) fun v s1 ⟨x, H1, I1, r1, q1⟩ => chain_link (thn (hb pins s1 σ H1 _ I1 q1) fun u s2 ⟨y, H2, I2, r2, q2⟩ =>
    thn (ho pins s2 σ H2 x y v u _ I2 r1 r2 q2) fun d s3 ⟨z, H3, I3, r3, k, e, q3⟩ => ?_)) hm
  subst e
  cases r3
  refine wpAny_truthy_bool ?_
  cases k with
  | false => exact ite_ff ⟨.bl false, H3, I3, rfl, q3⟩
  | true => exact ite_tt (chain_last (thn (hc pins s3 σ H3 _ I3 q3) fun w' s4 ⟨z', H4, I4, r4, q4⟩ => ho' pins s4 σ H4 y z' u w' Q I4 r2 r4 q4))
/-! ### truth -/
theorem line63 : (sizeLine : Nat) < 2 ^ 63 := by rw [sizeLine_eq]; decide
/-! ### strs and bytes -/
/-! ### scalar builtins, by CallR -/
theorem vals1 {x : V} {us : List Value} (r : Vals [x] us) : ∃ u, us = [u] ∧ RelV x u := by
  cases r with
  | cons r1 r2 => cases r2; exact ⟨_, rfl, r1⟩
theorem vals2 {x y : V} {us : List Value} (r : Vals [x, y] us) : ∃ u w', us = [u, w'] ∧ RelV x u ∧ RelV y w' := by
  cases r with
  | cons r1 r2 =>
    cases r2 with
    | cons r3 r4 => cases r4; exact ⟨_, _, rfl, r1, r3⟩
theorem call_min2 (hc : X.calm = true) : CallR X (.builtin "min") (fun xs H Q => ∃ i j, xs = [.int i, .int j] ∧ Q (.int (if j < i then j else i)) H) := by
  intro pins s σ H xs us Q I r h
  obtain ⟨i, j, rfl, q⟩ := h
  obtain ⟨u, w', rfl, ⟨t, rfl⟩, ⟨t', rfl⟩⟩ := vals2 r
  refine min_two_ints (I.ok.hd hc) fun h' tk k => ⟨_, H, I.kept k, ?_, q⟩
  by_cases hj : j < i
  · rw [if_pos hj, if_pos hj]; exact ⟨_, rfl⟩
  · rw [if_neg hj, if_neg hj]; exact ⟨_, rfl⟩
theorem call_int1 : CallR X (.type "int") (fun xs H Q => (∃ i, xs = [.int i] ∧ Q (.int i) H) ∨ ∃ k, xs = [.bl k] ∧ Q (.int (if k then 1 else 0)) H) := by
  intro pins s σ H xs us Q I r h
  rcases h with ⟨i, rfl, q⟩ | ⟨k, rfl, q⟩
  · obtain ⟨u, rfl, t, rfl⟩ := vals1 r
    exact call_int_int ⟨.int i, H, I, ⟨_, rfl⟩, q⟩
  · obtain ⟨u, rfl, r1⟩ := vals1 r
    cases r1
    exact call_int_bool ⟨.int (if k then 1 else 0), H, I.tok _, ⟨_, rfl⟩, q⟩
end
end L2

namespace L2
open PySem PySem.Spec PyProof.Rows

/-! ### an instance, its attributes a map -/
structure ObjM (h : Heap) (x dx C : Addr) (mA : Str → Option Value) : Prop where
  obj : h.get? x = some (PySem.W.instObj C dx)
  ns : h.Ns1 dx mA
  ne : dx ≠ x

theorem lookIn_ns {h : Heap} {dx : Addr} {mA : Str → Option Value} (n : h.Ns1 dx mA) : ∃ od, h.get? dx = some od ∧ ∀ name, PySem.W.lookIn name od = some (mA name) := by
  obtain ⟨o, es, ep, ho, hd, hk, _, hm⟩ := n
  refine ⟨o, ho, fun name => ?_⟩
  have e := hm name
  unfold nsFind findBy at e
  rw [← Array.find?_toList] at e
  unfold PySem.W.lookIn
  rw [hd]
  dsimp only
  split
  · rename_i y q
    rw [q] at e
    exact congrArg some e
  · rename_i q
    rw [q] at e
    have a : es.toList.any (·.refKey) = false := by
      rw [List.any_eq_false]
      intro y hy
      obtain ⟨z, t, hkey⟩ := hk y (Array.mem_toList_iff.mp hy)
      simp [DictEntry.refKey, hkey]
    have a' : ¬ es.toList.any (·.refKey) = true := by rw [a]; exact Bool.false_ne_true
    rw [if_neg a']
    exact congrArg some e

theorem ObjM.look {h : Heap} {x dx C : Addr} {mA : Str → Option Value} (I : ObjM h x dx C mA) : ∃ od, PySem.W.InstAt h x (PySem.W.instObj C dx) C (some od) ∧ ∀ name, PySem.W.lookIn name od = some (mA name) :=
  let ⟨od, ho, hl⟩ := lookIn_ns I.ns
  ⟨od, ⟨I.obj, rfl, rfl, ho⟩, hl⟩

section
variable {prog : Program} {w : World} {A : Around} {E : Value → Shared → Prop} {s : Shared} {K : PySem.W.Frag} {x dx C f : Addr} {mA : Str → Option Value} {name : Str} {v : Value}

theorem get_map {expr : Bool} {Q : Value → Shared → Prop} (X : K.In s.heap) (I : ObjM s.heap x dx C mA) (hg : PySem.W.plainGet K C name = true) (hh : PySem.W.hasDictIn K C = true)
    (ha : PySem.W.findIn K (.ref C) name = some none) (hv : mA name = some v) (hv' : PySem.W.handedIn v = true) (h : Q v { s with toks := s.toks + 1 }) :
    wpAny (model prog w) A (getAttr (.ref x) name expr) Q E s := by
  obtain ⟨od, J, hl⟩ := I.look
  exact PySem.W.get_value X J (PySem.W.plainGet_of hg).1 (PySem.W.findObj_own hh ha rfl (by rw [hl, hv])) hv' h

theorem get_meth {pl : Sem Bool} {Q : Value × List Value → Shared → Prop} (X : K.In s.heap) (I : ObjM s.heap x dx C mA) (hg : PySem.W.plainGet K C name = true)
    (hf : PySem.W.findIn K (.ref C) name = some (some (.ref f))) (ht : PySem.W.isFn K (.ref f) = true) (hv : mA name = none) (h : Q (.ref f, [.ref x]) s) :
    wpAny (model prog w) A (getMethod (.ref x) name pl) Q E s := by
  obtain ⟨od, J, hl⟩ := I.look
  exact PySem.W.method_fn X J (PySem.W.plainGet_of hg).1 (PySem.W.plainGet_of hg).2 hf (beq_iff_eq.mp ht) (by show (PySem.W.lookIn name od).map (·.isSome) = some false; rw [hl, hv]; rfl) h

theorem set_map {ns : List Str} {Q : Unit → Shared → Prop} (X : K.In s.heap) (I : ObjM s.heap x dx C mA)
    (hs : PySem.W.findIn K (.ref C) "__setattr__" = some (some (.builtin "object.__setattr__"))) (hp : PySem.W.plainOver K C = true) (ht : PySem.W.takerIn K C name = some none) (hh : PySem.W.hasDictIn K C = true)
    (hw : PySem.Within mA ns) (hsz : ns.length ≤ sizeLine)
    (h : ∀ h', ObjM h' x dx C (fun y => if y = name then some v else mA y) → Heap.SameBut dx s.heap h' → Q () { s with heap := h', toks := s.toks + 2 }) :
    wpAny (model prog w) A (setAttr (.ref x) name v) Q E s := by
  obtain ⟨od, J, hl⟩ := I.look
  refine PySem.W.set_plain X J hs (PySem.W.osa_open (s := { s with toks := s.toks + 1 }) (r := none) X J hp ht fun b => ?_)
  obtain ⟨cd, hc, hd'⟩ := PySem.W.any_some hh
  have hx : s.heap.get? x = some ⟨.ref C, some dx, .plain, #[]⟩ := I.obj
  refine wpAny_bind (wpAny_pure (wpAny_bind (wpAny_bind (wpAny_loadPart hx (wpAny_bind (PySem.W.Looks.here (s := { s with toks := s.toks + 1 }) (PySem.W.looks_clsIn X hc) ?_))))))
  rw [hd']
  refine wpAny_pure (a := some dx) (wpAny_bind (wpAny_pure (wpAny_bind ?_)))
  refine wpAny_nsSet1 (s := { s with toks := s.toks + 1 }) I.ns fun h' hn2 hs2 => ?_
  obtain ⟨oD, esD, epD, hoD, hdD, hcD⟩ := hn2.count (PySem.Within.cons name v hw)
  refine wpAny_bind (wpAny_lookBehind hoD (by rw [hdD]; exact pastItsLine_dict (Nat.le_trans hcD (by rw [List.length_cons]; omega))) ?_)
  exact wpAny_pure (h _ ⟨(hs2.2 _ (Ne.symm I.ne)).trans I.obj, hn2, I.ne⟩ hs2)

/-- C(..): the dict at the heap's end, the instance behind it; then its __init__ -/
theorem make_map {R : Result → Shared → Prop} {vs : List Value} {kw : List (Str × Value)} (X : K.In s.heap) (hm : PySem.W.makesIn K C = true)
    (hi : PySem.W.findIn K (.ref C) "__init__" = some (some (.ref f))) (hf : PySem.W.typeIn K (.ref f) = some (.type "function"))
    (h : codeAny (model prog w) (A.under (.builtin "type.__call__" ⟨.ref C :: vs, kw⟩)) (.call (.ref f) ⟨.ref (s.heap.objs.size + 1) :: vs, kw⟩) (PySem.W.InitBack (s.heap.objs.size + 1) R)
      { s with heap := (s.heap.push PySem.W.emptyDict).push (PySem.W.instObj C s.heap.objs.size) }) :
    codeAny (model prog w) A (.call (.ref C) ⟨vs, kw⟩) R s := by
  obtain ⟨hh, g, d, t, os⟩ := s
  exact PySem.W.make_core (PySem.W.makes_of X hm) (PySem.W.looks_findIn X hi) (fun self => PySem.W.bind_fn X self hf) (.inl rfl) h
end

/-! ### the attributes as a list of pairs -/
noncomputable def putF (f : Str) (v : V) : List (Str × V) → List (Str × V)
  | [] => [(f, v)]
  | (g, x) :: r => if g = f then (g, v) :: r else (g, x) :: putF f v r
theorem lookup_putF (f g : Str) (v : V) : ∀ fs : List (Str × V), (putF f v fs).lookup g = if g = f then some v else fs.lookup g
  | [] => by
    show List.lookup g [(f, v)] = _
    by_cases h : g = f
    · have hb : (g == f) = true := beq_iff_eq.mpr h
      simp only [List.lookup, hb, if_pos h]
    · have hb : (g == f) = false := beq_eq_false_iff_ne.mpr h
      simp only [List.lookup, hb, if_neg h]
  | (k, x) :: r => by
    have ih := lookup_putF f g v r
    rw [show putF f v ((k, x) :: r) = (if k = f then (k, v) :: r else (k, x) :: putF f v r) from rfl]
    by_cases hk : k = f
    · rw [if_pos hk]
      by_cases h : g = k
      · have hb : (g == k) = true := beq_iff_eq.mpr h
        simp only [List.lookup, hb, if_pos (h.trans hk)]
      · have hb : (g == k) = false := beq_eq_false_iff_ne.mpr h
        simp only [List.lookup, hb, if_neg (fun e : g = f => h (e.trans hk.symm))]
    · rw [if_neg hk]
      by_cases h : g = k
      · have hb : (g == k) = true := beq_iff_eq.mpr h
        simp only [List.lookup, hb, if_neg (fun e : g = f => hk (h.symm.trans e))]
      · have hb : (g == k) = false := beq_eq_false_iff_ne.mpr h
        simp only [List.lookup, hb]
        exact ih
theorem keys_putF (f : Str) (v : V) : ∀ fs : List (Str × V), f ∈ (putF f v fs).map (·.1) ∧ ∀ g, g ∈ fs.map (·.1) → g ∈ (putF f v fs).map (·.1)
  | [] => ⟨by simp [putF], fun g h => by simp at h⟩
  | (k, x) :: r => by
    obtain ⟨i1, i2⟩ := keys_putF f v r
    rw [show putF f v ((k, x) :: r) = (if k = f then (k, v) :: r else (k, x) :: putF f v r) from rfl]
    by_cases hk : k = f
    · rw [if_pos hk]
      subst hk
      exact ⟨by simp, fun g h => by simpa using h⟩
    · rw [if_neg hk]
      refine ⟨?_, fun g h => ?_⟩
      · rw [List.map_cons]
        exact List.mem_cons_of_mem _ i1
      · rw [List.map_cons] at h ⊢
        rcases List.mem_cons.mp h with e | e
        · exact List.mem_cons.mpr (.inl e)
        · exact List.mem_cons_of_mem _ (i2 g e)
theorem length_putF (f : Str) (v : V) : ∀ fs : List (Str × V), (putF f v fs).length ≤ fs.length + 1
  | [] => by simp [putF]
  | (k, x) :: r => by
    have ih := length_putF f v r
    rw [show putF f v ((k, x) :: r) = (if k = f then (k, v) :: r else (k, x) :: putF f v r) from rfl]
    by_cases hk : k = f
    · rw [if_pos hk, List.length_cons, List.length_cons]; omega
    · rw [if_neg hk, List.length_cons, List.length_cons]; omega

theorem RelO.some_of {v : V} {o : Option Value} (r : RelO (some v) o) : ∃ u, o = some u ∧ RelV v u := by
  cases o with
  | none => exact (show False from r).elim
  | some u => exact ⟨u, rfl, r⟩
theorem RelO.none_of {o : Option Value} (r : RelO none o) : o = none := by
  cases o with
  | none => rfl
  | some u => exact (show False from r).elim
theorem handed_of {v : V} {u : Value} (r : RelV v u) : PySem.W.handedIn u = true := by
  cases v with
  | non => cases (show u = Value.none from r); rfl
  | bl b => cases (show u = Value.bool b from r); rfl
  | int i => obtain ⟨t, e⟩ := (show ∃ t, u = Value.int i t from r); cases e; rfl
  | str x => obtain ⟨t, e⟩ := (show ∃ t, u = Value.str x t from r); cases e; rfl
  | byt b => obtain ⟨t, e⟩ := (show ∃ t, u = Value.bytes b t from r); cases e; rfl
  | flt b => obtain ⟨t, e⟩ := (show ∃ t, u = Value.float b t from r); cases e; rfl
  | ref a => cases (show u = Value.ref a from r); rfl
  | ty n => cases (show u = Value.type n from r); rfl

section
variable {P : Program} {w : World} {H H' : Hp} {h h' : Heap} {a C dx : Addr} {fs fs' : List (Str × V)}
theorem ins_get (hok : HOk P w H h) (e : H a = some (.ins C dx fs)) : ∃ mA, ObjM h a dx C mA ∧ (∀ f, RelO (fs.lookup f) (mA f)) ∧ PySem.Within mA (fs.map (·.1)) ∧ fs.length ≤ 1000 ∧ H dx = some (.own a) := by
  obtain ⟨d, z, ne, ob, mA, n, r, q⟩ := (show ObjOk P w H h a (.ins C dx fs) from hok a _ e)
  exact ⟨mA, ⟨ob, n, ne⟩, r, q, z, d⟩
end

/-! ### what of the text a class must have -/
structure Cls (K : PySem.W.Frag) (C : Addr) : Prop where
  pg : PySem.W.plainGet K C Str.empty = true
  hd : PySem.W.hasDictIn K C = true
  po : PySem.W.plainOver K C = true
  sa : PySem.W.findIn K (.ref C) "__setattr__" = some (some (.builtin "object.__setattr__"))
theorem Cls.get {K : PySem.W.Frag} {C : Addr} (c : Cls K C) (f : Str) : PySem.W.plainGet K C f = true := c.pg
/-- no class of it has the name -/
noncomputable def NoAttr (K : PySem.W.Frag) (C : Addr) (f : Str) : Prop := PySem.W.findIn K (.ref C) f = some none
theorem NoAttr.taker {K : PySem.W.Frag} {C : Addr} {f : Str} (n : NoAttr K C f) : PySem.W.takerIn K C f = some none := by
  unfold PySem.W.takerIn
  rw [show PySem.W.findIn K (.ref C) f = some none from n]
  rfl
/-- a method: a plain def of the class or of one above it -/
structure Meth (K : PySem.W.Frag) (C : Addr) (m : Str) (f : Addr) : Prop where
  at_ : PySem.W.findIn K (.ref C) m = some (some (.ref f))
  fn : PySem.W.isFn K (.ref f) = true
  kp : PySem.W.keepIn K (.ref f) = true

section
variable {X : Cx} {pins : List (Addr × Obj)} {σ : St} {H : Hp} {s : Shared} {a C dx : Addr} {fs : List (Str × V)} {f : Str} {v : V} {A : Around} {E : Value → Shared → Prop}

theorem getattr_ok {b : Bool} {Q : Value → Shared → Prop} (I : Inv X pins σ H s) (e : H a = some (.ins C dx fs)) (c : Cls X.K C) (n : NoAttr X.K C f) (l : fs.lookup f = some v)
    (h : ∀ u s', Inv X pins σ H s' → RelV v u → Q u s') : wpAny (model X.prog X.w) A (getAttr (.ref a) f b) Q E s := by
  obtain ⟨mA, O, r, _, _, _⟩ := ins_get I.hok e
  obtain ⟨u, hu, ru⟩ := RelO.some_of (v := v) (o := mA f) (by rw [← l]; exact r f)
  exact get_map I.kIn O (c.get f) c.hd n hu (handed_of ru) (h u _ (I.tok _) ru)

theorem getmeth_ok {m : Str} {g : Addr} {pl : Sem Bool} {Q : Value × List Value → Shared → Prop} (I : Inv X pins σ H s) (e : H a = some (.ins C dx fs)) (c : Cls X.K C) (k : Meth X.K C m g) (l : fs.lookup m = none)
    (h : Q (.ref g, [.ref a]) s) : wpAny (model X.prog X.w) A (getMethod (.ref a) m pl) Q E s := by
  obtain ⟨mA, O, r, _, _, _⟩ := ins_get I.hok e
  have hn : mA m = none := RelO.none_of (by rw [← l]; exact r m)
  exact get_meth I.kIn O (c.get m) k.at_ k.fn hn h

theorem setattr_ok {y : V} {u : Value} {Q : Unit → Shared → Prop} (I : Inv X pins σ H s) (e : H a = some (.ins C dx fs)) (c : Cls X.K C) (n : NoAttr X.K C f) (hl : fs.length < 1000) (ry : RelV y u)
    (h : ∀ s', Inv X pins σ (upd H a (.ins C dx (putF f y fs))) s' → Q () s') : wpAny (model X.prog X.w) A (setAttr (.ref a) f u) Q E s := by
  obtain ⟨mA, O, r, wi, _, ho⟩ := ins_get I.hok e
  have hz : (fs.map (·.1)).length ≤ sizeLine := by rw [List.length_map, sizeLine_eq]; omega
  refine set_map I.kIn O c.sa c.po n.taker c.hd wi hz fun h' O' sb => h _ ?_
  have hd : ∃ o, h'.get? dx = some o := let ⟨o, _, _, e', _⟩ := O'.ns; ⟨o, e'⟩
  refine I.write (x := a) (e := dx) (by rw [e]; exact True.intro) (.inr ho) (fun b q hb z => (sb.2 b hb).trans z) hd ?_
  refine ⟨by rw [upd_ne O.ne]; exact ho, ?_, O.ne, O'.obj, _, O'.ns, fun g => ?_, fun g hg => ?_⟩
  · have := length_putF f y fs; omega
  · show RelO ((putF f y fs).lookup g) (if g = f then some u else mA g)
    rw [lookup_putF]
    by_cases q : g = f
    · rw [if_pos q, if_pos q]; exact ry
    · rw [if_neg q, if_neg q]; exact r g
  · by_cases q : g = f
    · rw [q]; exact (keys_putF f y fs).1
    · refine (keys_putF f y fs).2 g (wi g fun z => hg ?_)
      show (if g = f then some u else mA g) = none
      rw [if_neg q]; exact z

/-- a new instance, tracked, without attributes -/
theorem Inv.made (I : Inv X pins σ H s) : Inv X pins σ (upd (upd H s.heap.objs.size (.own (s.heap.objs.size + 1))) (s.heap.objs.size + 1) (.ins C s.heap.objs.size []))
    { s with heap := (s.heap.push PySem.W.emptyDict).push (PySem.W.instObj C s.heap.objs.size) } := by
  have e1 : (s.heap.push PySem.W.emptyDict).get? s.heap.objs.size = some PySem.W.emptyDict := Heap.get?_push_size s.heap rfl
  have e2 : ((s.heap.push PySem.W.emptyDict).push (PySem.W.instObj C s.heap.objs.size)).get? (s.heap.objs.size + 1) = some (PySem.W.instObj C s.heap.objs.size) := by
    have := Heap.get?_push_size (s.heap.push PySem.W.emptyDict) (o := PySem.W.instObj C s.heap.objs.size) rfl
    rwa [Heap.size_push] at this
  have e3 : (s.heap.push PySem.W.emptyDict).Ns s.heap.objs.size (fun _ => none) := ⟨PySem.W.emptyDict, #[], _, e1, rfl, (fun e he => absurd he (by simp)), fun _ => rfl⟩
  have I1 := I.laid (a := s.heap.objs.size) (o := .own (s.heap.objs.size + 1)) (h' := s.heap.push PySem.W.emptyDict) (t' := s.toks) (fun b u q => Heap.get?_push_of_some _ q) (Nat.le_refl _) ⟨_, e1⟩
  refine I1.laid (a := s.heap.objs.size + 1) (o := .ins C s.heap.objs.size []) (t' := s.toks) (fun b u q => Heap.get?_push_of_some _ q) (Nat.le_of_eq (Heap.size_push _ _)) ?_
  have ne : s.heap.objs.size ≠ s.heap.objs.size + 1 := Nat.ne_of_lt (Nat.lt_succ_self _)
  refine ⟨by rw [upd_ne ne, upd_same], Nat.zero_le _, ne, e2, fun _ => none, (Heap.Ns1.of_empty e3).at fun o q => Heap.get?_push_of_some _ q, fun _ => True.intro, fun y hy => absurd rfl hy⟩

/-- e.f where nothing but the object is asked: through attributeBase (super) and the last hold -/
theorem attr_of {prog : Program} {w : World} {env : Env} {e : Expr} {f : Str} {pos : Pos} {s : Shared} {Q : Value → Shared → Prop} (hb : attributeBase e f env (eval e env) = eval e env)
    (h : wpAny (model prog w) A (eval e env) (fun o s₁ => wpAny (model prog w) A (getAttr o f true) Q E s₁) E s) : wpAny (model prog w) A (eval (.Attribute e f pos) env) Q E s :=
  Attribute_any_ h (by rw [arm_eval_Attribute, hb])
end

/-! ### readings and rules -/
/-- e.f, an attribute of the instance -/
noncomputable def tFld (K : PySem.W.Frag) (ta : TE) (f : Str) : TE := fun σ H Q => ta σ H fun x H1 => ∃ a C dx fs v, x = .ref a ∧ H1 a = some (.ins C dx fs) ∧ Cls K C ∧ NoAttr K C f ∧ fs.lookup f = some v ∧ Q v H1
/-- e.f = value -/
noncomputable def sFld (K : PySem.W.Frag) (ta tv : TE) (f : Str) : TS := fun D σ H => tv σ H fun y H1 => ta σ H1 fun x H2 => ∃ a C dx fs, x = .ref a ∧ H2 a = some (.ins C dx fs) ∧ Cls K C ∧ NoAttr K C f ∧ fs.length < 1000 ∧
  D.nx σ (upd H2 a (.ins C dx (putF f y fs)))
section
variable {X : Cx} {o e value : Expr} {f : Str} {pos pos' tpos : Pos} {ta tv : TE}
theorem pe_fld (he : PE X e ta) (hb : attributeBase e f X.env (eval e X.env) = eval e X.env) : PE X (.Attribute e f pos) (tFld X.K ta f) := by
  intro pins s σ H Q I h
  refine attr_of hb (thn (he pins s σ H _ I h) fun u s1 ⟨x, H1, I1, rx, a, C, dx, fs, v, ex, ea, c, n, l, q⟩ => ?_)
  subst ex
  obtain rfl : u = Value.ref a := rx
  exact getattr_ok I1 ea c n l fun u' s2 I2 ru => ⟨v, H1, I2, ru, q⟩
theorem ps_fld (ha : PE X o ta) (hv : PE X value tv) (hs : swapsWith value (some (.Attribute o f pos')) pos.line X.env = pure false) : PS X (.Assign [.Attribute o f pos'] value pos) (sFld X.K ta tv f) := by
  intro pins s σ H D I h
  refine plainObj_wpAny_Assign_Attribute (thn (hv pins s σ H _ I h) fun u s1 ⟨y, H1, I1, ry, q⟩ => thn (ha pins s1 σ H1 _ I1 q) fun ov s2 ⟨x, H2, I2, rx, a, C, dx, fs, ex, ea, c, n, l, q2⟩ => ?_) hs
  subst ex
  obtain rfl : ov = Value.ref a := rx
  exact setattr_ok I2 ea c n l ry fun s3 I3 => ⟨σ, _, I3, q2⟩
/-- what is between an instance and its method: the tree of a method call -/
theorem methcall_of {pl : Sem Bool} {m : Str} {apos : Pos} {args : List Expr} {pins : List (Addr × Obj)} {s : Shared} {σ : St} {H : Hp} {Q : Value → Shared → Prop} {te : TE} (he : PE X e te) (I : Inv X pins σ H s)
    (h : te σ H fun x H1 => ∃ a C dx fs g, x = .ref a ∧ H1 a = some (.ins C dx fs) ∧ Cls X.K C ∧ Meth X.K C m g ∧ fs.lookup m = none ∧
      ∀ s1, Inv X pins σ H1 s1 → wpAny (model X.prog X.w) X.A (callWith pos (.ref g) [.ref a] (backTo pos (starEach args X.env)) (backToKw pos (keywordEach [] X.env))) Q X.xe s1)
    (ht : eval (.Call (.Attribute e m apos) args [] pos) X.env = (do
      let ov ← eval e X.env
      standAt apos.atName
      let (f, first) ← holding [ov] (getMethod ov m pl)
      callWith pos f first (backTo pos (starEach args X.env)) (backToKw pos (keywordEach [] X.env)))) :
    wpAny (model X.prog X.w) X.A (eval (.Call (.Attribute e m apos) args [] pos) X.env) Q X.xe s := by
  refine PySem.W.methodCall_KW (pl := pl) (thn (he pins s σ H _ I h) fun u s1 ⟨x, H1, I1, rx, a, C, dx, fs, g, ex, ea, c, k, l, q⟩ => ?_) ht
  subst ex
  obtain rfl : u = Value.ref a := rx
  exact getmeth_ok I1 ea c k l (q s1 I1)
end

/-! ### isinstance -/
section
variable {X : Cx} {pins : List (Addr × Obj)} {σ : St} {H : Hp} {s : Shared} {A : Around} {E : Value → Shared → Prop} {Q : Value → Shared → Prop} {c : Value} {b : Bool}
/-- the type of a value, as the fragment's deciders take it; for an instance its class -/
inductive TyOf (K : PySem.W.Frag) (H : Hp) : V → Value → Prop where
  | non : TyOf K H .non (.type "NoneType")
  | bl (x : Bool) : TyOf K H (.bl x) (.type "bool")
  | int (i : Int) : TyOf K H (.int i) (.type "int")
  | str (x : Str) : TyOf K H (.str x) (.type "str")
  | flt (x : UInt64) : TyOf K H (.flt x) (.type "float")
  | lst {a : Addr} {xs : List V} (e : H a = some (.lst xs)) : TyOf K H (.ref a) (.type "list")
  | frz {a : Addr} {o : Obj} {xs : List V} (e : H a = some (.frz o (.lst xs))) : TyOf K H (.ref a) (.type "list")
  | tup {a : Addr} {xs : List V} (e : H a = some (.tup xs)) : TyOf K H (.ref a) (.type "tuple")
  | dK {a : Addr} {kvs : List (Key × V)} (e : H a = some (.dK kvs)) : TyOf K H (.ref a) (.type "dict")
  | dT {a : Addr} {kvs : List (List Key × V)} (e : H a = some (.dT kvs)) : TyOf K H (.ref a) (.type "dict")
  | ins {a C dx : Addr} {fs : List (Str × V)} (e : H a = some (.ins C dx fs)) (cl : Cls K C) (ha : PySem.W.findIn K (.ref C) "__class__" = some (some (.builtin "object.__class__")))
      (hn : PySem.W.specialIn K (.builtin "object.__class__") "__get__" = some (some (.builtin "getset_descriptor.__get__"))) (htk : PySem.W.takesIn K (.builtin "object.__class__") = some true)
      (hm : PySem.W.mroIn K C (.type "object") = some true) : TyOf K H (.ref a) (.ref C)
/-- isinstance(x, c) for one class c, a built-in or an own one: kitOne's answer -/
theorem isinst_ok {x : V} {u t : Value} (I : Inv X pins σ H s) (rx : RelV x u) (ty : TyOf X.K H x t) (e : PySem.W.kitOne X.K t c = some b) (h : ∀ tk, Q (.bool b) { s with toks := tk }) :
    wpAny (model X.prog X.w) A (call (.builtin "isinstance") [u, c]) Q E s := by
  cases ty with
  | non => cases (show u = Value.none from rx); exact PySem.W.kia_one PySem.W.kitx_none I.kIn True.intro e (fun z => nomatch z) h
  | bl y => cases (show u = Value.bool y from rx); exact PySem.W.kia_one PySem.W.kitx_bool I.kIn True.intro e (fun z => nomatch z) h
  | int i => obtain ⟨t, q⟩ := (show ∃ t, u = Value.int i t from rx); cases q; exact PySem.W.kia_one PySem.W.kitx_int I.kIn True.intro e (fun z => nomatch z) h
  | str y => obtain ⟨t, q⟩ := (show ∃ t, u = Value.str y t from rx); cases q; exact PySem.W.kia_one PySem.W.kitx_str I.kIn True.intro e (fun z => nomatch z) h
  | flt y => obtain ⟨t, q⟩ := (show ∃ t, u = Value.float y t from rx); cases q; exact PySem.W.kia_one PySem.W.kitx_float I.kIn True.intro e (fun z => nomatch z) h
  | @lst a xs ea =>
    cases (show u = Value.ref a from rx)
    obtain ⟨_, _, n, _, h1⟩ := (show ObjOk X.prog X.w H s.heap a (.lst xs) from I.hok a _ ea)
    exact PySem.W.kia_one PySem.W.kitx_list I.kIn ⟨_, h1, rfl⟩ e (fun z => nomatch z) h
  | @frz a ob xs ea =>
    cases (show u = Value.ref a from rx)
    obtain ⟨_, _, _, n, _, h1⟩ := (show ObjOk X.prog X.w H s.heap a (.frz ob (.lst xs)) from I.hok a _ ea)
    exact PySem.W.kia_one PySem.W.kitx_list I.kIn ⟨_, h1, rfl⟩ e (fun z => nomatch z) h
  | @tup a xs ea =>
    cases (show u = Value.ref a from rx)
    obtain ⟨_, _, _, p⟩ := (show ObjOk X.prog X.w H s.heap a (.tup xs) from I.hok a _ ea)
    obtain ⟨o, h1, h2, _⟩ := p
    exact PySem.W.kia_one PySem.W.kitx_tuple I.kIn ⟨o, h1, h2⟩ e (fun z => nomatch z) h
  | @dK a kvs ea =>
    cases (show u = Value.ref a from rx)
    obtain ⟨_, _, vs, _, p⟩ := (show ObjOk X.prog X.w H s.heap a (.dK kvs) from I.hok a _ ea)
    obtain ⟨o, es, ep, h1, h2, _⟩ := p
    exact PySem.W.kia_one PySem.W.kitx_dict I.kIn ⟨o, h1, h2.1⟩ e (fun z => nomatch z) h
  | @dT a kvs ea =>
    cases (show u = Value.ref a from rx)
    obtain ⟨_, _, xs, _, o, es, ep, h1, h2, _⟩ := (show ObjOk X.prog X.w H s.heap a (.dT kvs) from I.hok a _ ea)
    exact PySem.W.kia_one PySem.W.kitx_dict I.kIn ⟨o, h1, h2.1⟩ e (fun z => nomatch z) h
  | @ins a C dx fs ea cl ha hn htk hm =>
    cases (show u = Value.ref a from rx)
    obtain ⟨mA, O, _⟩ := ins_get I.hok ea
    obtain ⟨od, J, _⟩ := O.look
    exact PySem.W.kia_one (PySem.W.kitx_own (cl.get _) cl.hd ha hn htk hm) I.kIn J e (fun z => nomatch z) h
end
end L2

namespace L2
open PySem PySem.Spec PyProof.Rows

/-! ### room -/
structure Room (k : Nat) (A : Around) : Prop where
  hd : A.handled = none
  dp : A.depth + 3 * k + 5 < recursionLimit
  un : A.units + 16 * k + 200 < cLine
theorem Room.mono {j k : Nat} {A : Around} (r : Room k A) (h : j ≤ k) : Room j A := ⟨r.hd, by have := r.dp; omega, by have := r.un; omega⟩
theorem Room.deeper {k : Nat} {A : Around} (r : Room (k + 1) A) (env : Env) : Room k (A.deeper env) :=
  ⟨r.hd, by have := r.dp; show A.depth + 1 + 3 * k + 5 < _; omega, by have := r.un; show A.units + 3 + 16 * k + 200 < _; omega⟩
theorem make_depth {A : Around} {C : Addr} {us : List Value} {kw : List (Str × Value)} : (A.under (.builtin "type.__call__" ⟨.ref C :: us, kw⟩)).depth = A.depth + 1 := by
  first | rfl | simp [Around.under, Code.weight, Code.isCreation, Code.isGuard, Code.isCaller, Code.frames, Code.isFrame, guardIds]
theorem make_units {A : Around} {C : Addr} {us : List Value} {kw : List (Str × Value)} : (A.under (.builtin "type.__call__" ⟨.ref C :: us, kw⟩)).units = A.units + 1 := by
  first | rfl | simp [Around.under, Code.cUnits, Code.frames, Code.isFrame]
theorem Room.make {k : Nat} {A : Around} (r : Room (k + 1) A) (C : Addr) (us : List Value) (kw : List (Str × Value)) : Room k (A.under (.builtin "type.__call__" ⟨.ref C :: us, kw⟩)) :=
  ⟨r.hd, by have := r.dp; rw [make_depth]; omega, by have := r.un; rw [make_units]; omega⟩
theorem Room.depth {k : Nat} {A : Around} (r : Room k A) : A.depth < recursionLimit := by have := r.dp; omega
theorem Room.units {k : Nat} {A : Around} (r : Room k A) : A.units + 64 < cLine := by have := r.un; omega
/-! ### argument lists and displays -/
noncomputable def tNil : TA := fun _ H Q => Q [] H
noncomputable def tCons (ta : TE) (tr : TA) : TA := fun σ H Q => ta σ H fun x H1 => tr σ H1 fun xs H2 => Q (x :: xs) H2
section
variable {X : Cx} {e : Expr} {es : List Expr} {te : TE} {t : TA} {pos : Pos}
theorem pa_nil : PA X [] tNil := fun _ _ _ _ H Q I h => Calls.spliced_nil ⟨[], H, I, .nil, h⟩
theorem pa_cons (ha : PE X e te) (hr : PA X es t) (hs : starEach (e :: es) X.env = (false, eval e X.env) :: starEach es X.env := by rfl) : PA X (e :: es) (tCons te t) := by
  intro pos pins s σ H Q I h
  rw [hs]
  show wpAny _ _ (spliced ((false, eval e X.env) :: backTo pos (starEach es X.env))) _ _ s
  refine Calls.spliced_cons (thn (ha pins s σ H _ I h) fun u s1 ⟨x, H1, I1, r1, q1⟩ => ?_)
  exact thn (hr pos pins s1 σ H1 _ I1 q1) fun us s2 ⟨xs, H2, I2, r2, q2⟩ => ⟨x :: xs, H2, I2, .cons r1 r2, q2⟩

noncomputable def tLst (t : TA) : TE := fun σ H Q => t σ H fun xs H1 => xs.length ≤ sizeLine ∧ ∀ p, H1 p = none → Q (.ref p) (upd H1 p (.lst xs))
theorem pe_lst (h : PA X es t) : PE X (.List es pos) (tLst t) := by
  intro pins s σ H Q I hq
  refine wpAny_List_spliced (thn (h pos pins s σ H _ I hq) fun us s1 ⟨xs, H1, I1, r, z, q⟩ => ⟨by rw [← r.length]; exact z, ?_⟩)
  have hf : H1 s1.heap.objs.size = none := I1.hok.fresh (Nat.le_refl _)
  refine ⟨.ref s1.heap.objs.size, upd H1 s1.heap.objs.size (.lst xs), I1.laid (t' := s1.toks) (fun b u e => Heap.get?_push_of_some _ e) (Nat.le_refl _) ?_, rfl, q _ hf⟩
  exact ⟨z, us, 0, r, Heap.get?_push_size _ rfl⟩
end

/-! ### what a def promises -/
/-- a def's promise: the bound arguments in the parameters' order, the heap, the wanted end, the wanted exception -/
noncomputable abbrev Sp := List V → Hp → VK → XK → Prop
/-- how an exception lies behind a call (file 08 gives it): the callers' frames, abstract heap and state ahead of the call, the wish, the exception, the state -/
noncomputable abbrev CXT := List Env → Hp → Shared → XK → Value → Shared → Prop

/-- the state at a call -/
structure Env0 (P : Program) (w : World) (K : PySem.W.Frag) (mg : Str → Option Value) (base : Heap) (A : Around) (outer : List Env) (s : Shared) (H : Hp) : Prop where
  frames : A.frames = some outer
  mod : Mod K mg base
  bs : ∀ b o, base.get? b = some o → s.heap.get? b = some o ∧ H b = none
  bsz : base.objs.size ≤ s.heap.objs.size
  funs : s.heap.FunFrames base outer
  frf : ∀ b ∈ frs outer, H b = none
  hok : HOk P w H s.heap
  bare : AllBare s.gens
/-- a call's end -/
noncomputable def CE (outer : List Env) (P : Program) (w : World) (H : Hp) (s : Shared) (Q : VK) (u : Value) (s' : Shared) : Prop :=
  ∃ v H', s'.os = s.os ∧ AllBare s'.gens ∧ Un (frs outer) [] H H' s.heap s'.heap ∧ HOk P w H' s'.heap ∧ RelV v u ∧ Q v H'
noncomputable def CR (CX : CXT) (outer : List Env) (P : Program) (w : World) (H : Hp) (s : Shared) (Q : VK) (E : XK) (r : Result) (s' : Shared) : Prop :=
  match r with
  | .ok (.ret u) => CE outer P w H s Q u s'
  | .ok _ => False
  | .error e => CX outer H s E e s'
structure FnOk (P : Program) (w : World) (K : PySem.W.Frag) (mg : Str → Option Value) (base : Heap) (CX : CXT) (k : Nat) (f : Addr) (fd : FuncData) (ps : List Str) (sp : Sp) : Prop where
  len : ∀ vs H Q E, sp vs H Q E → vs.length = ps.length
  run : ∀ (A : Around) (outer : List Env) (s : Shared) (H : Hp) (args : Args) (us : List Value) (vs : List V) (Q : VK) (E : XK), Room k A → Env0 P w K mg base A outer s H → BindsTo s fd args (ps.zip us) → Vals vs us → sp vs H Q E →
    codeAny (model P w) A (.call (.ref f) args) (CR CX outer P w H s Q E) s
theorem Env0.make {P : Program} {w : World} {K : PySem.W.Frag} {mg : Str → Option Value} {base : Heap} {A : Around} {outer : List Env} {s : Shared} {H : Hp} (e : Env0 P w K mg base A outer s H) (C : Addr) (us : List Value) (kw : List (Str × Value)) :
    Env0 P w K mg base (A.under (.builtin "type.__call__" ⟨.ref C :: us, kw⟩)) outer s H := ⟨by first | exact e.frames | (simpa [Around.under, Code.envs, Code.isFrame, pushEnvs] using e.frames), e.mod, e.bs, e.bsz, e.funs, e.frf, e.hok, e.bare⟩
section
variable {X : Cx} {pins : List (Addr × Obj)} {σ : St} {H : Hp} {s s' : Shared}
/-- from a body: what a callee wants -/
theorem Inv.env0 (I : Inv X pins σ H s) : Env0 X.prog X.w X.K X.mg X.base X.A X.stack s H :=
  ⟨I.ok.frames, I.ok.mod, I.bs, Nat.le_trans I.ok.bsz I.sz, I.stack, I.stkFree, I.hok, I.bare⟩
/-- behind a call -/
theorem Inv.after {Q : VK} {u : Value} (I : Inv X pins σ H s) (h : CE X.stack X.prog X.w H s Q u s') : EP X pins σ Q u s' := by
  obtain ⟨v, H', os, bare, un, hok, r, q⟩ := h
  obtain ⟨hh, g, d, t, os'⟩ := s'
  obtain rfl : os' = s.os := os
  exact ⟨v, H', I.call (h' := hh) (g' := g) (d' := d) (t' := t) (ch := []) un hok bare (fun b z => absurd z (by simp)), r, q⟩
end

/-! ### calls -/
/-- f(..): the written arguments, then the defaults dvs; E: what is wanted of an exception -/
noncomputable def tCall (sp : Sp) (dvs : List V) (E : XK) (t : TA) : TE := fun σ H Q => t σ H fun vs H1 => sp (vs ++ dvs) H1 Q E
/-- o.m(..) of an instance of the class at C -/
noncomputable def tMeth (C : Addr) (m : Str) (sp : Sp) (dvs : List V) (E : XK) (ta : TE) (t : TA) : TE := fun σ H Q => ta σ H fun x H1 => ∃ a dx fs, x = .ref a ∧ H1 a = some (.ins C dx fs) ∧ fs.lookup m = none ∧
  t σ H1 fun vs H2 => sp (x :: (vs ++ dvs)) H2 Q E
/-- C(..): a new instance and its dict, then __init__ -/
noncomputable def tMake (C : Addr) (sp : Sp) (dvs : List V) (E : XK) (t : TA) : TE := fun σ H Q => t σ H fun vs H1 => ∀ x dx, H1 x = none → H1 dx = none → dx ≠ x →
  sp (.ref x :: (vs ++ dvs)) (upd (upd H1 dx (.own x)) x (.ins C dx [])) (fun v H2 => v = .non ∧ Q (.ref x) H2) E

/-- how the parameters are bound: us the positional arguments, kw the keywords' values by name, ds the defaults that fill up -/
noncomputable def Binds (K : PySem.W.Frag) (fd : FuncData) (ps : List Str) (ds : List Value) : Prop :=
  ∀ (s : Shared) (us : List Value), K.In s.heap → (us ++ ds).length = ps.length → BindsTo s fd ⟨us, []⟩ (ps.zip (us ++ ds))
/-- every parameter is given -/
theorem Binds.all {K : PySem.W.Frag} {fd : FuncData} {ps : List Str} (h : ∀ us : List Value, us.length = ps.length → bindArgs fd ⟨us, []⟩ = pure (ps.zip us)) : Binds K fd ps [] := fun s us _ hl => by
  rw [List.append_nil] at hl ⊢
  exact .of_eq (h us hl)

/-- an exception of a callee reaches what this body wants of exceptions -/
noncomputable def Passes (CX : CXT) (X : Cx) (E : XK) : Prop := ∀ (pins : List (Addr × Obj)) (σ : St) (H : Hp) (s : Shared) (e : Value) (s' : Shared), Inv X pins σ H s → CX X.stack H s E e s' → X.xe e s'

section
variable {X : Cx} {CX : CXT} {k : Nat} {f C : Addr} {fd : FuncData} {ps : List Str} {sp : Sp} {dvs : List V} {ds : List Value} {E : XK} {x m : Str} {p pos apos : Pos} {e o : Expr} {es : List Expr} {ta : TE} {t : TA}

/-- the callee runs -/
theorem run_fn {pins : List (Addr × Obj)} {σ : St} {H : Hp} {s : Shared} {Q : VK} {us : List Value} {vs : List V} (F : FnOk X.prog X.w X.K X.mg X.base CX k f fd ps sp) (hr : Room k X.A) (hb : Binds X.K fd ps ds) (hd : Vals dvs ds) (hx : Passes CX X E)
    (I : Inv X pins σ H s) (r : Vals vs us) (h : sp (vs ++ dvs) H Q E) : wpAny (model X.prog X.w) X.A (call (.ref f) us) (EP X pins σ Q) X.xe s := by
  have r2 : Vals (vs ++ dvs) (us ++ ds) := r.append hd
  have hl : (us ++ ds).length = ps.length := by rw [← r2.length]; exact F.len _ _ _ _ h
  refine wpAny_call (codeAny_mono (F.run X.A X.stack s H ⟨us, []⟩ (us ++ ds) (vs ++ dvs) Q E hr I.env0 (hb s us I.kIn hl) r2 h) fun r s' hq => ?_)
  cases r with
  | error e => exact hx pins σ H s e s' I hq
  | ok fl =>
    cases fl with
    | ret u => exact I.after hq
    | next => exact False.elim hq
    | brk => exact False.elim hq
    | cont => exact False.elim hq

theorem pe_call (F : FnOk X.prog X.w X.K X.mg X.base CX k f fd ps sp) (hr : Room k X.A) (hg : Gl X x) (hm : X.mg x = some (.ref f)) (hk : PySem.W.keepIn X.K (.ref f) = true) (hb : Binds X.K fd ps ds) (hd : Vals dvs ds) (hx : Passes CX X E)
    (ha : PA X (e :: es) t) (hdb : (x == ("__debug__" : Str)) = false := by decide) (he : starEach (e :: es) X.env = (false, eval e X.env) :: starEach es X.env := by rfl) (hpl : (backTo pos (starEach es X.env)).any (·.1) = false := by rfl) :
    PE X (.Call (.Name x p) (e :: es) [] pos) (tCall sp dvs E t) := by
  intro pins s σ H Q I h
  refine wpAny_Call_Name_kw (ld_glob I hg hm ?_ hdb)
  refine PySem.W.callWith_K (h₀ := X.base) I.ok.mod.kin hk (thn (ha pos pins s σ H _ I h) fun us s1 ⟨vs, H1, I1, r, q⟩ => ⟨I1.kIn, ?_⟩) he hpl
  exact run_fn F hr hb hd hx I1 r q
/-- o.m(e, ..) -/
theorem pe_meth {pl : Sem Bool} (he : PE X o ta) (c : Cls X.K C) (hm : Meth X.K C m f) (F : FnOk X.prog X.w X.K X.mg X.base CX k f fd ps sp) (hr : Room k X.A) (hb : Binds X.K fd ps ds) (hd : Vals dvs ds) (hx : Passes CX X E) (ha : PA X (e :: es) t)
    (hst : starEach (e :: es) X.env = (false, eval e X.env) :: starEach es X.env := by rfl) (hpl : (backTo pos (starEach es X.env)).any (·.1) = false := by rfl)
    (ht : eval (.Call (.Attribute o m apos) (e :: es) [] pos) X.env = (do
      let ov ← eval o X.env
      standAt apos.atName
      let (f, first) ← holding [ov] (getMethod ov m pl)
      callWith pos f first (backTo pos (starEach (e :: es) X.env)) (backToKw pos (keywordEach [] X.env))) := by rfl) :
    PE X (.Call (.Attribute o m apos) (e :: es) [] pos) (tMeth C m sp dvs E ta t) := by
  intro pins s σ H Q I h
  refine PySem.W.methodCall_KW (pl := pl) (thn (he pins s σ H _ I h) fun u s1 ⟨x, H1, I1, rx, a, dx, fs, ex, ea, l, q⟩ => ?_) ht
  subst ex
  obtain rfl : u = Value.ref a := rx
  refine getmeth_ok I1 ea c hm l ?_
  refine PySem.W.callWith_K (first := [.ref a]) (h₀ := X.base) I.ok.mod.kin hm.kp (thn (ha pos pins s1 σ H1 _ I1 q) fun us s2 ⟨vs, H2, I2, r, q2⟩ => ⟨I2.kIn, ?_⟩) hst hpl
  exact run_fn (us := .ref a :: us) (vs := .ref a :: vs) F hr hb hd hx I2 (.cons rfl r) q2
/-- what a class must have to be made -/
structure Mk (K : PySem.W.Frag) (C f : Addr) : Prop where
  makes : PySem.W.makesIn K C = true
  init : PySem.W.findIn K (.ref C) "__init__" = some (some (.ref f))
  fn : PySem.W.isFn K (.ref f) = true
  kp : PySem.W.keepIn K (.ref C) = true

theorem run_make {pins : List (Addr × Obj)} {σ : St} {H : Hp} {s : Shared} {Q : VK} {us : List Value} {vs : List V} (M : Mk X.K C f) (F : FnOk X.prog X.w X.K X.mg X.base CX k f fd ps sp) (hr : Room (k + 1) X.A) (hb : Binds X.K fd ps ds) (hd : Vals dvs ds)
    (hx : Passes CX X E) (I : Inv X pins σ H s) (r : Vals vs us)
    (h : ∀ x dx, H x = none → H dx = none → dx ≠ x → sp (.ref x :: (vs ++ dvs)) (upd (upd H dx (.own x)) x (.ins C dx [])) (fun v H2 => v = .non ∧ Q (.ref x) H2) E) :
    wpAny (model X.prog X.w) X.A (call (.ref C) us) (EP X pins σ Q) X.xe s := by
  have hq := h (s.heap.objs.size + 1) s.heap.objs.size (I.hok.fresh (Nat.le_succ _)) (I.hok.fresh (Nat.le_refl _)) (Nat.ne_of_lt (Nat.lt_succ_self _))
  have I2 := Inv.made (C := C) I
  have r2 : Vals (V.ref (s.heap.objs.size + 1) :: (vs ++ dvs)) (Value.ref (s.heap.objs.size + 1) :: (us ++ ds)) := .cons rfl (r.append hd)
  have hl : (Value.ref (s.heap.objs.size + 1) :: us ++ ds).length = ps.length := by
    have e := r2.length
    rw [F.len _ _ _ _ hq] at e
    exact e.symm
  refine wpAny_call (make_map (f := f) I.kIn M.makes M.init (beq_iff_eq.mp M.fn) (codeAny_mono (F.run _ X.stack _ _ ⟨Value.ref (s.heap.objs.size + 1) :: us, []⟩ (Value.ref (s.heap.objs.size + 1) :: (us ++ ds)) _ _ E (hr.make C us [])
    (I2.env0.make C us []) (hb _ (Value.ref (s.heap.objs.size + 1) :: us) I2.kIn hl) r2 hq) fun r s' hq' => ?_))
  cases r with
  | error e => exact hx pins σ _ _ e s' I2 hq'
  | ok fl =>
    cases fl with
    | ret u =>
      obtain ⟨v, H', I3, rv, ev, q3⟩ := I2.after hq'
      subst ev
      exact ⟨rv, ⟨V.ref (s.heap.objs.size + 1), H', I3, rfl, q3⟩⟩
    | next => exact False.elim hq'
    | brk => exact False.elim hq'
    | cont => exact False.elim hq'
theorem pe_make0 (M : Mk X.K C f) (F : FnOk X.prog X.w X.K X.mg X.base CX k f fd ps sp) (hr : Room (k + 1) X.A) (hg : Gl X x) (hm : X.mg x = some (.ref C)) (hb : Binds X.K fd ps ds) (hd : Vals dvs ds) (hx : Passes CX X E)
    (hdb : (x == ("__debug__" : Str)) = false := by decide) : PE X (.Call (.Name x p) [] [] pos) (tMake C sp dvs E tNil) := by
  intro pins s σ H Q I h
  refine wpAny_Call_Name_kw (ld_glob I hg hm ?_ hdb)
  exact PySem.W.callWith_K0 I.kIn M.kp (run_make (us := []) M F hr hb hd hx I .nil h)
end

/-! ### keywords -/
section
variable {X : Cx} {CX : CXT} {k : Nat} {f C : Addr} {fd : FuncData} {ps ks : List Str} {sp : Sp} {E : XK} {x m : Str} {p pos apos kpos : Pos} {e o : Expr} {es : List Expr} {kws : List Keyword} {te ta : TE} {t tk : TA} {nm : Option Str}
variable {g : List Value → List Value → List Value} {gV : List V → List V → List V}
end

/-! ### a def's body keeps its promise -/
/-- names: the parameters first -/
structure FnScope (N P : List Str) (sc : Scope) : Prop where
  kind : sc.kind = .function
  co : sc.isCoroutine = false
  gen : sc.isGenerator = false
  nd : N.Nodup
  pre : N.take P.length = P
  par : ∀ x ∈ P, sc.names.lookup x = some .local ∨ sc.names.lookup x = some .cell
  nofree : ∀ y ∈ sc.names, y.2 ≠ .free

theorem bindL_out {kindOf : Str → Option NameKind} {x : Str} : ∀ {binds : List (Str × Value)} {m : Str → Option Value}, (∀ v, (x, v) ∉ binds) → bindL kindOf binds m x = m x
  | [], _, _ => rfl
  | (n, v) :: r, m, h => by
    unfold bindL
    rw [bindL_out fun w hw => h w (List.mem_cons_of_mem _ hw)]
    split
    · have : x ≠ n := by rintro rfl; exact h v List.mem_cons_self
      simp [this]
    · rfl
theorem bindC_out {kindOf : Str → Option NameKind} {x : Str} : ∀ {binds : List (Str × Value)} {m : Str → Option Value}, (∀ v, (x, v) ∉ binds) → bindC kindOf binds m x = m x
  | [], _, _ => rfl
  | (n, v) :: r, m, h => by
    unfold bindC
    rw [bindC_out fun w hw => h w (List.mem_cons_of_mem _ hw)]
    split
    · rfl
    · have : x ≠ n := by rintro rfl; exact h v List.mem_cons_self
      simp [this]
theorem bindL_get {kindOf : Str → Option NameKind} {x : Str} {v : Value} : ∀ {P : List Str} {vs : List Value} {i : Nat} {m : Str → Option Value}, P.Nodup → P[i]? = some x → vs[i]? = some v → kindOf x = some .local →
    bindL kindOf (P.zip vs) m x = some v
  | [], _, _, _, _, h, _, _ => by simp at h
  | _ :: _, [], _, _, _, _, h, _ => by simp at h
  | p :: P, w :: vs, 0, m, nd, h1, h2, hk => by
    simp at h1 h2; subst h1; subst h2
    show bindL kindOf ((p, w) :: P.zip vs) m p = _
    unfold bindL
    rw [bindL_out fun v hv => (List.nodup_cons.mp nd).1 (List.of_mem_zip hv).1, if_pos hk]
    simp
  | p :: P, w :: vs, i + 1, m, nd, h1, h2, hk => by
    show bindL kindOf ((p, w) :: P.zip vs) m x = _
    unfold bindL
    exact bindL_get (i := i) (List.nodup_cons.mp nd).2 (by simpa using h1) (by simpa using h2) hk
theorem bindC_get {kindOf : Str → Option NameKind} {x : Str} {v : Value} : ∀ {P : List Str} {vs : List Value} {i : Nat} {m : Str → Option Value}, P.Nodup → P[i]? = some x → vs[i]? = some v → kindOf x ≠ some .local →
    bindC kindOf (P.zip vs) m x = some v
  | [], _, _, _, _, h, _, _ => by simp at h
  | _ :: _, [], _, _, _, _, h, _ => by simp at h
  | p :: P, w :: vs, 0, m, nd, h1, h2, hk => by
    simp at h1 h2; subst h1; subst h2
    show bindC kindOf ((p, w) :: P.zip vs) m p = _
    unfold bindC
    rw [bindC_out fun v hv => (List.nodup_cons.mp nd).1 (List.of_mem_zip hv).1, if_neg hk]
    simp
  | p :: P, w :: vs, i + 1, m, nd, h1, h2, hk => by
    show bindC kindOf ((p, w) :: P.zip vs) m x = _
    unfold bindC
    exact bindC_get (i := i) (List.nodup_cons.mp nd).2 (by simpa using h1) (by simpa using h2) hk

/-- the names' values at the entry -/
noncomputable def start (N : List Str) (vs : List V) : St := vs.map some ++ List.replicate (N.length - vs.length) none

/-- the context of a def's body, at its entry; an exception leaves the frame, then lies as CX says -/
noncomputable def cxOf (CX : CXT) (P : Program) (w : World) (K : PySem.W.Frag) (mg : Str → Option Value) (base : Heap) (N : List Str) (qual : Str) (scope : Scope) (f : Addr) (cd : Value) (A : Around) (outer : List Env) (s : Shared) (H : Hp) (E : XK) : Cx where
  prog := P
  w := w
  K := K
  mg := mg
  base := base
  A := A.deeper (envOfC qual scope s.heap.objs.size f cd)
  N := N
  s₀ := s
  H₀ := H
  env := envOfC qual scope s.heap.objs.size f cd
  outer := outer
  stack := envOfC qual scope s.heap.objs.size f cd :: outer
  ex := []
  calm := true
  fn := fun _ => true
  pn := []
  xe := fun e s' => wpAny (model P w) (A.deeper (envOfC qual scope s.heap.objs.size f cd)) (leaving (envOfC qual scope s.heap.objs.size f cd) e) (fun _ s'' => CX outer H s E e s'') (fun e' s'' => CX outer H s E e' s'') s'

theorem cell_has {sc : Scope} {n : Nat} {x : Str} (h : sc.names.lookup x = some .cell) : ∃ c, (cellsFrom n sc.names []).lookup x = some c := by
  have q := PySem.W.cellsFrom_some sc.names n [] (.inl h)
  exact Option.isSome_iff_exists.mp q

theorem inv_start {CX : CXT} {P : Program} {w : World} {K : PySem.W.Frag} {mg : Str → Option Value} {base : Heap} {N ps : List Str} {qual : Str} {scope : Scope} {f : Addr} {cd : Value} {A : Around} {outer : List Env} {s s1 : Shared} {H : Hp} {E : XK} {us : List Value} {vs : List V}
    (S : FnScope N ps scope) (hd : A.handled = none) (e0 : Env0 P w K mg base A outer s H) (hl : vs.length = ps.length) (r : Vals vs us)
    (x : InCallC s s.heap.objs.size (bindL (envOfC qual scope s.heap.objs.size f cd).kindOf (ps.zip us) fun _ => none) (cellsFrom (s.heap.objs.size + 1) scope.names []) (bindC (envOfC qual scope s.heap.objs.size f cd).kindOf (ps.zip us) fun _ => none) s1) :
    Inv (cxOf CX P w K mg base N qual scope f cd A outer s H E) [] (start N vs) H s1 := by
  have hpl : ps.length ≤ N.length := by have := congrArg List.length S.pre; rw [List.length_take] at this; omega
  obtain ⟨h1, tk, rfl, hk⟩ := x.done
  have noA : ∀ b : Addr, b ∉ (cxOf CX P w K mg base N qual scope f cd A outer s H E).ex := fun b z => absurd (show b ∈ ([] : List Addr) from z) (by simp)
  refine ⟨⟨e0.mod, S.kind, rfl, rfl, Nat.le_refl _, fun y z c h1 h2 => ?_, fun y hy => ?_, fun y c _ h => ?_, fun _ => hd, Around.frames_deeper e0.frames, .inr ⟨rfl, rfl⟩, fun b z => absurd z (noA b), e0.bs, e0.bsz, fun b _ _ => noA b, fun b z => absurd z (noA b), e0.funs, e0.frf⟩,
    rfl, e0.bare, Un.kept hk, ⟨_, x.toInCall.ns, fun i y v h1 h2 h3 => ?_⟩, fun y c h => ⟨_, x.cell y c h⟩, e0.hok.fresh (Nat.le_refl _), fun y c h => ?_, fun p hp => absurd (show p ∈ ([] : List (Addr × Obj)) from hp) (by simp), e0.hok.kept hk, ?_⟩
  · exact name_of_addr x.apart (PySem.mem_of_lookup h1) (PySem.mem_of_lookup h2)
  · have hy : scope.names.lookup y = some .cell ∨ scope.names.lookup y = some .free := hy
    rcases hy with hy | hy
    · exact cell_has hy
    · exact absurd rfl (S.nofree _ (PySem.mem_of_lookup hy))
  · exact Nat.le_of_lt (x.above y c (PySem.mem_of_lookup h))
  · have hi : i < vs.length := by
      unfold start at h2
      by_cases hi : i < vs.length
      · exact hi
      · rw [List.getElem?_append_right (by simpa using hi)] at h2
        rw [List.getElem?_replicate] at h2
        split at h2 <;> cases h2
    have ha : vs[i]? = some v := by
      unfold start at h2
      rw [List.getElem?_append_left (by simpa using hi), List.getElem?_map] at h2
      cases e : vs[i]? with
      | none => rw [e] at h2; cases h2
      | some a => rw [e] at h2; cases h2; rfl
    obtain ⟨u, hu, rv⟩ := r.get ha
    have hp : ps[i]? = some y := by
      rw [← S.pre, List.getElem?_take_of_lt (by omega)]; exact h1
    have ndP : ps.Nodup := by rw [← S.pre]; exact S.nd.sublist (List.take_sublist _ _)
    refine ⟨u, rv, ?_⟩
    rcases S.par y (List.mem_of_getElem? hp) with k | k
    · exact .inl ⟨k, bindL_get ndP hp hu k⟩
    · obtain ⟨c, e⟩ := cell_has (n := s.heap.objs.size + 1) k
      refine .inr ⟨.inl k, c, e, ?_⟩
      have q := x.cell y c e
      rw [bindC_get ndP hp hu (by show scope.names.lookup y ≠ _; rw [k]; decide)] at q
      exact q
  · exact e0.hok.fresh (Nat.le_of_lt (x.above y c (PySem.mem_of_lookup h)))
  · unfold start
    show _ = N.length
    rw [List.length_append, List.length_map, List.length_replicate]
    omega

/-- THE RULE: a def (or a method) of the text, by its body. The body's reading t is chosen for each entry; it is run at the parameters' values -/
theorem fn_of {CX : CXT} {P : Program} {w : World} {K : PySem.W.Frag} {mg : Str → Option Value} {base : Heap} {k : Nat} {f : Addr} {name qual : Str} {params : Arguments} {body : List Stmt} {scope : Scope} {dV kV doc pm cdv ct oc : Value} {an od : Option Addr}
    {osl : Array (Option Value)} {N ps : List Str} {sp : Sp} (lk : K.lookup f = some ⟨oc, od, .func (PySem.W.fnOf name qual params body scope dV kV doc pm an cdv ct), osl⟩) (hcd : PySem.W.codeIn K cdv qual = true) (S : FnScope N ps scope)
    (len : ∀ vs H Q E, sp vs H Q E → vs.length = ps.length)
    (hbody : ∀ (A : Around) (outer : List Env) (s : Shared) (H : Hp) (vs : List V) (Q : VK) (E : XK), Room k (A.deeper (envOfC qual scope s.heap.objs.size f cdv)) → sp vs H Q E →
      ∃ t, PSs (cxOf CX P w K mg base N qual scope f cdv A outer s H E) body t ∧ t { nx := fun _ H' => Q .non H', rt := Q } (start N vs) H) :
    FnOk P w K mg base CX (k + 1) f (PySem.W.fnOf name qual params body scope dV kV doc pm an cdv ct) ps sp := by
  refine ⟨len, fun A outer s H args us vs Q E hr e0 hb r hsp => ?_⟩
  have hl := len _ _ _ _ hsp
  have KX : K.In s.heap := e0.mod.kin.keeps fun b o e => (e0.bs b o e).1
  have lim : s.heap.NoLimit := e0.mod.nolimit.keeps fun b o e => (e0.bs b o e).1
  have hkind : ∀ y ∈ ps.zip us, scope.names.lookup y.1 = some .local ∨ (scope.names.lookup y.1 = some .cell ∧ ((cellsFrom (s.heap.objs.size + 1) scope.names []).lookup y.1).isSome = true) := fun ⟨n, v⟩ hy => by
    rcases S.par n (List.of_mem_zip hy).1 with q | q
    · exact .inl q
    · exact .inr ⟨q, PySem.W.cellsFrom_some _ _ _ (.inl q)⟩
  refine codeAny_call_function hr.depth (KX _ _ lk) rfl S.co S.gen rfl (PySem.W.codeRec_of KX hcd) (hb _ _ _ _ ?_)
  refine wpAny_newFunctionEnv_cells S.kind hkind fun env he s1 x => ?_
  subst he
  refine ⟨lim.keeps x.toInCall.keep, codeAny_func ?_⟩
  obtain ⟨t, ht, hq⟩ := hbody A outer s H vs Q E (hr.deeper _) hsp
  have I : Inv (cxOf CX P w K mg base N qual scope f cdv A outer s H E) [] (start N vs) H s1 := inv_start S hr.hd e0 hl r x
  refine wpAny_mono (ht [] s1 (start N vs) H _ I hq) (fun fl s' hs => ?_) fun e s' hs => hs
  have fin : ∀ {σ' : St} {H' : Hp} {v : V} {u : Value}, Inv (cxOf CX P w K mg base N qual scope f cdv A outer s H E) [] σ' H' s' → RelV v u → Q v H' → CE outer P w H s Q u s' :=
    fun {σ' H' v u} J rv q => ⟨v, H', J.os, J.bare, J.base, J.hok, rv, q⟩
  cases fl with
  | ret u =>
    obtain ⟨v, σ', H', J, rv, q⟩ := hs
    exact fin J rv q
  | next =>
    obtain ⟨σ', H', J, q⟩ := hs
    exact fin (v := V.non) (u := Value.none) J rfl q
  | brk =>
    obtain ⟨_, _, _, q⟩ := hs
    exact False.elim q
  | cont =>
    obtain ⟨_, _, _, q⟩ := hs
    exact False.elim q
end L2

namespace L2
open PySem PySem.Spec PyProof.Rows
section
variable {X : Cx} {x : Str} {p pos : Pos} {e : Expr} {es : List Expr} {t : TA} {id T : String} {r : List V → Hp → VK → Prop}

noncomputable def tCB (r : List V → Hp → VK → Prop) (t : TA) : TE := fun σ H Q => t σ H fun vs H1 => r vs H1 Q
/-- f(e, ..), f a built-in function -/
theorem pe_callB (hc : CallR X (.builtin id) r) (hg : Gl X x) (hm : X.mg x = none) (hv : bootBuiltins x = some (.builtin id)) (ha : PA X (e :: es) t) (hn : x ≠ "__name__" := by decide) (hdb : (x == ("__debug__" : Str)) = false := by decide)
    (he : starEach (e :: es) X.env = (false, eval e X.env) :: starEach es X.env := by rfl) (hpl : (backTo pos (starEach es X.env)).any (·.1) = false := by rfl) : PE X (.Call (.Name x p) (e :: es) [] pos) (tCB r t) := by
  intro pins s σ H Q I h
  refine wpAny_Call_Name_kw (ld_blt I hg hm hv ?_ hn hdb)
  exact PyProof.Rows.callWith_builtin1 (thn (ha pos pins s σ H _ I h) fun us s1 ⟨vs, H1, I1, r1, q1⟩ => hc pins s1 σ H1 vs us Q I1 r1 q1) he hpl
/-- T(e, ..), T a built-in type -/
theorem pe_callTy (hc : CallR X (.type T) r) (hg : Gl X x) (hm : X.mg x = none) (hv : bootBuiltins x = some (.type T)) (ha : PA X (e :: es) t) (hn : x ≠ "__name__" := by decide) (hdb : (x == ("__debug__" : Str)) = false := by decide)
    (he : starEach (e :: es) X.env = (false, eval e X.env) :: starEach es X.env := by rfl) (hpl : (backTo pos (starEach es X.env)).any (·.1) = false := by rfl) : PE X (.Call (.Name x p) (e :: es) [] pos) (tCB r t) := by
  intro pins s σ H Q I h
  refine wpAny_Call_Name_kw (ld_blt I hg hm hv ?_ hn hdb)
  exact PyProof.Rows.callWith_type1 (thn (ha pos pins s σ H _ I h) fun us s1 ⟨vs, H1, I1, r1, q1⟩ => hc pins s1 σ H1 vs us Q I1 r1 q1) he hpl
end
end L2

namespace HT
open PySem PyProof.Rows

section
open PySem.SeqAt
open PySem.AutoSeq1 (wpAny_loadPart')
open PySem.MeetsSeq PySem.MeetsSeq2 PySem.MeetsSeq3

end

section
variable {prog : Program} {w : World} {A : Around} {E : Value → Shared → Prop} {s : Shared}

/-! ### t[a:b], not the whole -/
/-- a slice's bound as a place among n (d where it is left out) -/
noncomputable def sIx (n d : Nat) : Option Int → Nat
  | none => d
  | some v => if v < 0 then (v + (n : Int)).toNat else min v.toNat n
theorem sIx_none (n d : Nat) : sIx n d none = d := rfl
theorem sIx_nat (n d k : Nat) : sIx n d (some (k : Int)) = min k n := by
  show (if (k : Int) < 0 then ((k : Int) + (n : Int)).toNat else min (k : Int).toNat n) = min k n
  rw [if_neg (by omega), Int.toNat_natCast]
end
end HT

namespace L2
open PySem PySem.Spec PyProof.Rows

/-! ### the parts of a slice -/
noncomputable abbrev TO := St → Hp → (Option Int → Hp → Prop) → Prop
/-- a slice's part (left out, or an int) -/
noncomputable def PO (X : Cx) (e : Option Expr) (t : TO) : Prop :=
  ∀ (pins : List (Addr × Obj)) (s : Shared) (σ : St) (H : Hp) (Q : Option Int → Hp → Prop), Inv X pins σ H s → t σ H Q →
    wpAny (model X.prog X.w) X.A (evalPart e X.env) (fun u s' => ∃ o H', Inv X pins σ H' s' ∧ IsPart u o ∧ Q o H') X.xe s
noncomputable def tNoPart : TO := fun _ H Q => Q none H
noncomputable def tPart (t : TE) : TO := fun σ H Q => t σ H fun x H1 => ∃ i, x = .int i ∧ Q (some i) H1

theorem intsAre_of {ns : List Int} : ∀ {us : List Value}, Vals (ns.map V.int) us → IntsAre us ns := by
  induction ns with
  | nil => intro us r; rw [List.map_nil] at r; cases r; exact .nil
  | cons n ns ih =>
    intro us r
    rw [List.map_cons] at r
    cases r with
    | cons r1 r2 =>
      obtain ⟨t, e⟩ := r1
      subst e
      exact .cons n t (ih r2)

section
variable {X : Cx} {e : Expr} {te : TE} {lo hi : Option Expr} {tl th : TO} {pos p2 : Pos}

theorem po_none : PO X none tNoPart := by
  intro pins s σ H Q I h
  rw [evalPart_none]
  exact wpAny_pure ⟨none, H, I, .none, h⟩
theorem po_some (h : PE X e te) : PO X (some e) (tPart te) := by
  intro pins s σ H Q I hw
  rw [evalPart_some]
  refine thn (h pins s σ H _ I hw) fun u s1 ⟨x, H1, I1, r1, q1⟩ => ?_
  obtain ⟨i, rfl, q⟩ := q1
  obtain ⟨t, rfl⟩ := r1
  exact ⟨some i, H1, I1, .int i t, q⟩

/-- what a slice of a value is, by values: the slice object stands at sl -/
noncomputable def SlR (X : Cx) (r : V → Option Int → Option Int → Hp → VK → Prop) : Prop :=
  ∀ (pins : List (Addr × Obj)) (s : Shared) (σ : St) (H : Hp) (x : V) (v vl vu : Value) (lo hi : Option Int) (sl : Addr) (Q : VK), Inv X pins σ H s → RelV x v → s.heap.IsSliceOf sl vl vu .none → IsPart vl lo → IsPart vu hi → r x lo hi H Q →
    ∃ T id, typeLookup (.type T) "__getitem__" = pure (some (.builtin id)) ∧ s.TypeIs v T ∧ wpAny (model X.prog X.w) X.A (getItem v (.ref sl)) (EP X pins σ Q) X.xe s
noncomputable def tSl (r : V → Option Int → Option Int → Hp → VK → Prop) (te : TE) (tl th : TO) : TE := fun σ H Q => te σ H fun x H1 => tl σ H1 fun l H2 => th σ H2 fun u H3 => r x l u H3 Q
/-- a[lo:hi], any a -/
theorem pe_slice {r : V → Option Int → Option Int → Hp → VK → Prop} (hr : SlR X r) (he : PE X e te) (hl : PO X lo tl) (hu : PO X hi th) : PE X (.Subscript e (.Slice lo hi none p2) pos) (tSl r te tl th) := by
  intro pins s σ H Q I h
  refine Subscript_ (thn (he pins s σ H _ I h) fun v s1 ⟨x, H1, I1, r1, q1⟩ => ?_)
  refine wpAny_Slice (thn (hl pins s1 σ H1 _ I1 q1) fun vl s2 ⟨l, H2, I2, pl, q2⟩ => thn (hu pins s2 σ H2 _ I2 q2) fun vu s3 ⟨u, H3, I3, pu, q3⟩ => ?_)
  rw [evalPart_none]
  refine wpAny_pure ?_
  have I4 : Inv X pins σ H3 { s3 with heap := s3.heap.push { cls := .type "slice", data := .fields #[vl, vu, .none] } } := I3.kept (t' := s3.toks) fun b ob q => Heap.get?_push_of_some _ q
  obtain ⟨T, id, hT, ht, hg⟩ := hr pins { s3 with heap := s3.heap.push { cls := .type "slice", data := .fields #[vl, vu, .none] } } σ H3 x v vl vu l u s3.heap.objs.size Q I4 r1 (Heap.IsSliceOf.new ..) pl pu q3
  show wpAny (model X.prog X.w) X.A (subscriptTail e (.Slice lo hi none p2) v (.ref s3.heap.objs.size)) (EP X pins σ Q) X.xe { s3 with heap := s3.heap.push { cls := .type "slice", data := .fields #[vl, vu, .none] } }
  exact tail_any (ops := [.ref s3.heap.objs.size, v]) ht hT hg (by with_unfolding_all rfl)

/-- the items of xs[lo:hi] -/
noncomputable def cutV (xs : List V) (lo hi : Option Int) : List V := (xs.drop (HT.sIx xs.length 0 lo)).take (HT.sIx xs.length xs.length hi - HT.sIx xs.length 0 lo)
theorem cutV_length (xs : List V) (lo hi : Option Int) : (cutV xs lo hi).length ≤ xs.length := by
  unfold cutV
  rw [List.length_take, List.length_drop]
  omega
/-! ### t < u, t + u -/
end
end L2

namespace L2
open PySem PySem.Spec PyProof.Rows

/-! ### places -/
/-- the place that an index of any sign means -/
noncomputable def ixN (n : Nat) (i : Int) : Option Nat := if 0 ≤ i then (if i < n then some i.toNat else none) else if -(n : Int) ≤ i then some (i + n).toNat else none
noncomputable def atI {α : Type} (xs : List α) (i : Int) : Option α := (ixN xs.length i).bind fun j => xs[j]?
theorem ixN_seq {n : Nat} {i : Int} {j : Nat} (h : ixN n i = some j) : seqIndex? i n = some j ∧ j < n ∧ -(n : Int) ≤ i ∧ i < n := by
  unfold ixN at h
  by_cases h0 : 0 ≤ i
  · rw [if_pos h0] at h
    by_cases h1 : i < n
    · rw [if_pos h1] at h
      have e : i.toNat = j := Option.some.inj h
      exact ⟨by rw [seqIndex_of h0 h1, e], by omega, by omega, h1⟩
    · rw [if_neg h1] at h; cases h
  · rw [if_neg h0] at h
    by_cases h1 : -(n : Int) ≤ i
    · rw [if_pos h1] at h
      have e : (i + n).toNat = j := Option.some.inj h
      exact ⟨by rw [seqIndex_neg (by omega) h1, e], by omega, h1, by omega⟩
    · rw [if_neg h1] at h; cases h
theorem atI_get {α : Type} {xs : List α} {i : Int} {v : α} (h : atI xs i = some v) : ∃ j, seqIndex? i xs.length = some j ∧ xs[j]? = some v ∧ j < xs.length ∧ -(xs.length : Int) ≤ i ∧ i < xs.length := by
  unfold atI at h
  cases e : ixN xs.length i with
  | none => rw [e] at h; cases h
  | some j =>
    rw [e] at h
    obtain ⟨h1, h2, h3, h4⟩ := ixN_seq e
    exact ⟨j, h1, h, h2, h3, h4⟩
theorem atI_nat {α : Type} {xs : List α} {j : Nat} {v : α} (h : xs[j]? = some v) : atI xs (j : Int) = some v := by
  have hj : j < xs.length := (List.getElem?_eq_some_iff.mp h).1
  have e : ixN xs.length (j : Int) = some j := by
    unfold ixN
    rw [if_pos (by omega), if_pos (by omega)]; simp
  unfold atI; rw [e]; exact h
theorem atI_last {α : Type} (xs : List α) (v : α) : atI (xs ++ [v]) (-1) = some v := by
  have hl : (xs ++ [v]).length = xs.length + 1 := by simp
  have e : ixN (xs ++ [v]).length (-1) = some xs.length := by
    unfold ixN
    rw [hl, if_neg (by decide), if_pos (by omega)]
    congr 1
    omega
  unfold atI
  rw [e]
  show (xs ++ [v])[xs.length]? = some v
  simp

/-! ### what may be subscripted -/
/-- what stands as an index of a plain subscript -/
noncomputable def PlainIx (b : Expr) : Prop := ∀ o i, subscripted b false o i = operate [o, i] (getItem o i)
/-- a subscript by values -/
noncomputable def IxR (X : Cx) (r : R2) : Prop :=
  ∀ (value slice : Expr) (pins : List (Addr × Obj)) (s : Shared) (σ : St) (H : Hp) (x y : V) (v u : Value) (Q : VK), Inv X pins σ H s → RelV x v → RelV y u → r x y H Q →
    subscripted slice false v u = operate [v, u] (getItem v u) → wpAny (model X.prog X.w) X.A (subscriptTail value slice v u) (EP X pins σ Q) X.xe s
/-- a call of a builtin's method by values: the receiver, the arguments -/
noncomputable def MtR (X : Cx) (id : String) (r : V → List V → Hp → VK → Prop) : Prop :=
  ∀ (pins : List (Addr × Obj)) (s : Shared) (σ : St) (H : Hp) (x : V) (xs : List V) (v : Value) (us : List Value) (Q : VK), Inv X pins σ H s → RelV x v → Vals xs us → r x xs H Q →
    wpAny (model X.prog X.w) X.A (call (.builtin id) (v :: us)) (EP X pins σ Q) X.xe s
section
variable {X : Cx} {a b : Expr} {ta tb : TE} {pos : Pos}
/-- a[b] -/
theorem pe_ix {r : R2} (hr : IxR X r) (ha : PE X a ta) (hb : PE X b tb) (hs : PlainIx b) : PE X (.Subscript a b pos) (tOp r ta tb) := by
  intro pins s σ H Q I h
  exact Subscript_ (binT ha hb I h fun v u s2 x y H2 I2 rx ry q => hr a b pins s2 σ H2 x y v u Q I2 rx ry q (hs _ _))

noncomputable def rIxL (K : PySem.W.Frag) : R2 := fun x y H Q => ∃ p xs i v, x = .ref p ∧ y = .int i ∧ SqL K H p xs ∧ atI xs i = some v ∧ Q v H
theorem ix_list : IxR X (rIxL X.K) := by
  intro value slice pins s σ H x y v u Q I rx ry h hs
  obtain ⟨p, xs, i, z, rfl, rfl, hq, he, q⟩ := h
  cases rx
  obtain ⟨t, rfl⟩ := ry
  obtain ⟨its, r, pl, hz⟩ := I.list hq
  obtain ⟨j, h1, h2, h3, h4, h5⟩ := atI_get he
  obtain ⟨w, ew, rw'⟩ := r.get h2
  have hl := r.length
  have hn := line63
  have fin : EP X pins σ Q w s := ⟨z, H, I, rw', q⟩
  by_cases h0 : 0 ≤ i
  · have hj : i.toNat = j := by
      rw [seqIndex_of h0 h5] at h1
      exact Option.some.inj h1
    exact item_listR pl.isList h0 (by omega) (by rw [hj]; simpa using ew) fin hs
  · have hj : (i + (its.toArray.size : Int)).toNat = j := by
      rw [seqIndex_neg (by omega) h4] at h1
      rw [List.size_toArray, ← hl]
      exact Option.some.inj h1
    exact subscriptTail_builtinR (x := w) pl.isList.typeIs slot_list_getitem.lookup
      (wpAny_getItem_list_neg (Q := fun r s' => r = w ∧ EP X pins σ Q r s') pl.isList (by omega) (by rw [List.size_toArray] <;> omega) (by omega) (by rw [hj]; simpa using ew) ⟨rfl, fin⟩) hs
/-! ### xs[i] = v, any sign -/
/-- the list's object behind a store -/
theorem mapSeq_set (its : List Value) (n j : Nat) (u : Value) : Obj.mapSeq (·.setIfInBounds j u) { cls := .type "list", data := .seq its.toArray n } = { cls := .type "list", data := .seq (its.set j u).toArray n } := by
  simp [Obj.mapSeq]
theorem Inv.lst {pins : List (Addr × Obj)} {σ : St} {H : Hp} {s : Shared} {p : Addr} {xs : List V} (I : Inv X pins σ H s) (h : H p = some (.lst xs)) :
    ∃ (its : List Value) (n : Nat), Vals xs its ∧ s.heap.get? p = some { cls := .type "list", data := .seq its.toArray n } ∧ xs.length ≤ sizeLine := by
  obtain ⟨z, its, n, r, e⟩ := I.hok p _ h
  exact ⟨its, n, r, e, z⟩
/-- the list at p is written by an update of its object -/
theorem Inv.lstUpd {pins : List (Addr × Obj)} {σ : St} {H : Hp} {s : Shared} {p : Addr} {xs ys : List V} {its its' : List Value} {n n' : Nat} {f : Obj → Obj} (I : Inv X pins σ H s) (h : H p = some (.lst xs))
    (ho : s.heap.get? p = some { cls := .type "list", data := .seq its.toArray n }) (hf : f { cls := .type "list", data := .seq its.toArray n } = { cls := .type "list", data := .seq its'.toArray n' }) (r : Vals ys its') (hz : ys.length ≤ sizeLine) (t : Nat) :
    Inv X pins σ (upd H p (.lst ys)) { s with heap := s.heap.update p f, toks := t } := by
  have e : (s.heap.update p f).get? p = some { cls := .type "list", data := .seq its'.toArray n' } := by
    rw [Heap.get?_update_self f ho (by rw [hf] <;> rfl), hf]
  refine I.write (x := p) (e := p) (by rw [h]; trivial) (.inl rfl) (fun b u hb q => (Heap.get?_update_other _ _ (Ne.symm hb)).trans q) ⟨_, e⟩ ?_
  exact ⟨hz, its', n', r, e⟩
noncomputable def rSetL : V → V → V → Hp → (Hp → Prop) → Prop := fun o i v H Q => ∃ p xs k j, o = .ref p ∧ i = .int k ∧ H p = some (.lst xs) ∧ ixN xs.length k = some j ∧ Q (upd H p (.lst (xs.set j v)))
theorem set_list : PSet X rSetL := by
  intro pins s σ H o i v ov iv u Q I ro ri rv h
  obtain ⟨p, xs, k, j, rfl, rfl, hp, hj, q⟩ := h
  cases ro
  obtain ⟨t, rfl⟩ := ri
  obtain ⟨its, n, r, ho, hz⟩ := I.lst hp
  obtain ⟨h1, h2, h3, h4⟩ := ixN_seq hj
  have hl := r.length
  have hn := line63
  have I' : Inv X pins σ (upd H p (.lst (xs.set j v))) { s with heap := s.heap.update p (Obj.mapSeq (·.setIfInBounds j u)) } :=
    I.lstUpd hp ho (mapSeq_set its n j u) (r.set rv j) (by rw [List.length_set]; exact hz) s.toks
  by_cases h0 : 0 ≤ k
  · have hk : k.toNat = j := by
      rw [seqIndex_of h0 h4] at h1
      exact Option.some.inj h1
    exact PySem.W.ki_setAt ho h0 (by omega) (by rw [List.size_toArray, ← hl]; exact h4) (by rw [hk]; exact ⟨_, I', q⟩)
  · have hk : (k + (its.toArray.size : Int)).toNat = j := by
      rw [seqIndex_neg (by omega) h3] at h1
      rw [List.size_toArray, ← hl]
      exact Option.some.inj h1
    exact PySem.W.ki_setBack ho (by omega) (by rw [List.size_toArray, ← hl]; exact h3) (by omega) (by rw [hk]; exact ⟨_, I', q⟩)

/-! ### slices -/
theorem slice_bounds (lo hi : Option Int) (n : Nat) : (sliceBounds lo hi none n).1 = ((HT.sIx n 0 lo : Nat) : Int) ∧ (sliceBounds lo hi none n).2.1 = ((HT.sIx n n hi : Nat) : Int) ∧ (sliceBounds lo hi none n).2.2 = 1 := by
  refine ⟨?_, ?_, rfl⟩
  · cases lo with
    | none => simp [sliceBounds, HT.sIx]
    | some i =>
      simp only [sliceBounds, HT.sIx, Option.getD_none, show (1 : Int) > 0 by decide, if_true]
      by_cases h : i < 0
      · simp only [h, if_true] <;> omega
      · simp only [h, if_false] <;> omega
  · cases hi with
    | none => simp [sliceBounds, HT.sIx]
    | some i =>
      simp only [sliceBounds, HT.sIx, Option.getD_none, show (1 : Int) > 0 by decide, if_true]
      by_cases h : i < 0
      · simp only [h, if_true] <;> omega
      · simp only [h, if_false] <;> omega
theorem slicePick_cut (its : List Value) (lo hi : Option Int) : slicePick its.toArray lo hi none = ((its.drop (HT.sIx its.length 0 lo)).take (HT.sIx its.length its.length hi - HT.sIx its.length 0 lo)).toArray := by
  obtain ⟨h1, h2, h3⟩ := slice_bounds lo hi its.toArray.size
  unfold slicePick
  rw [h1, h2, h3]
  simp only [sliceRange_one, pick_run, List.size_toArray] <;> rfl
/-- xs[lo:hi] of a list: a new list -/
noncomputable def rSlL (K : PySem.W.Frag) : V → Option Int → Option Int → Hp → VK → Prop := fun x lo hi H Q => ∃ a xs, x = .ref a ∧ SqL K H a xs ∧ ∀ p, H p = none → Q (.ref p) (upd H p (.lst (cutV xs lo hi)))
theorem sl_list : SlR X (rSlL X.K) := by
  intro pins s σ H x v vl vu lo hi sl Q I rx hs pl pu h
  obtain ⟨a, xs, rfl, hx, q⟩ := h
  cases rx
  obtain ⟨its, r, ht, hz⟩ := I.list hx
  have hlen := r.length
  refine ⟨"list", _, slot_list_getitem.lookup, ht.isList.typeIs, ?_⟩
  refine wpAny_getItem_list_slice ht.isList hs pl pu .none (by simp) ?_ (by rw [List.size_toArray] <;> omega)
  rw [slicePick_cut, ← hlen]
  refine ⟨.ref s.heap.objs.size, _, I.laid (t' := s.toks) (o := .lst (cutV xs lo hi)) (fun b ob q => Heap.get?_push_of_some _ q) (Nat.le_refl _) ?_, rfl, q _ (I.hok.fresh (Nat.le_refl _))⟩
  exact ⟨Nat.le_trans (cutV_length xs lo hi) hz, _, 0, (r.drop (HT.sIx xs.length 0 lo)).take (HT.sIx xs.length xs.length hi - HT.sIx xs.length 0 lo), Heap.get?_push_size _ rfl⟩

/-! ### in, not in: flat items -/
noncomputable def flatV : V → Bool
  | .non => true
  | .bl _ => true
  | .int _ => true
  | .str _ => true
  | _ => false
/-- == of flat values -/
noncomputable def eqV : V → V → Bool
  | .non, .non => true
  | .bl a, .bl b => a == b
  | .bl a, .int b => (if a then 1 else 0) == b
  | .int a, .bl b => a == (if b then 1 else 0)
  | .int a, .int b => a == b
  | .str a, .str b => a == b
  | _, _ => false
theorem eqAt_V {A : Around} {s : Shared} {y x : V} {u v : Value} (ry : RelV y u) (rx : RelV x v) (fy : flatV y = true) (fx : flatV x = true) : SeqAt.EqAt A s u v (eqV y x) := by
  cases y with
  | non =>
    cases ry
    cases x with
    | non => cases rx; exact SeqAt.EqAt.same _
    | bl b => cases rx; exact SeqAt.EqAt.none_bool b
    | int b => obtain ⟨t, rfl⟩ := rx; exact SeqAt.EqAt.none_int b t
    | str b => obtain ⟨t, rfl⟩ := rx; exact SeqAt.EqAt.none_str b t
    | _ => exact absurd (show false = true from fx) Bool.false_ne_true
  | bl a =>
    cases ry
    cases x with
    | non => cases rx; exact SeqAt.EqAt.bool_none a
    | bl b => cases rx; exact SeqAt.EqAt.bool_bool a b
    | int b => obtain ⟨t, rfl⟩ := rx; exact SeqAt.EqAt.bool_int a b t
    | str b => obtain ⟨t, rfl⟩ := rx; exact SeqAt.EqAt.bool_str a b t
    | _ => exact absurd (show false = true from fx) Bool.false_ne_true
  | int a =>
    obtain ⟨t', rfl⟩ := ry
    cases x with
    | non => cases rx; exact SeqAt.EqAt.int_none a t'
    | bl b => cases rx; exact SeqAt.EqAt.int_bool a t' b
    | int b => obtain ⟨t, rfl⟩ := rx; exact SeqAt.EqAt.int_int a t' b t
    | str b => obtain ⟨t, rfl⟩ := rx; exact SeqAt.EqAt.int_str a t' b t
    | _ => exact absurd (show false = true from fx) Bool.false_ne_true
  | str a =>
    obtain ⟨t', rfl⟩ := ry
    cases x with
    | non => cases rx; exact SeqAt.EqAt.str_none a t'
    | bl b => cases rx; exact SeqAt.EqAt.str_bool a t' b
    | int b => obtain ⟨t, rfl⟩ := rx; exact SeqAt.EqAt.str_int a t' b t
    | str b => obtain ⟨t, rfl⟩ := rx; exact SeqAt.EqAt.str_str a t' b t
    | _ => exact absurd (show false = true from fx) Bool.false_ne_true
  | _ => exact absurd (show false = true from fy) Bool.false_ne_true
/-! ### len, list(x), tuple(x) of any list or tuple that is read -/
theorem call_len_seq : CallR X (.builtin "len") (fun xs H Q => ∃ p ys, xs = [.ref p] ∧ (SqL X.K H p ys ∨ SqT X.K H p ys) ∧ Q (.int ys.length) H) := by
  intro pins s σ H xs us Q I r h
  obtain ⟨p, ys, rfl, hq, q⟩ := h
  obtain ⟨u, rfl, rx⟩ := vals1 r
  cases rx
  have hn := line63
  rcases hq with hq | hq
  · obtain ⟨its, r', pl, hz⟩ := I.list hq
    have hlen := r'.length
    exact Calls.call_len_list pl.isList (by simp only [List.size_toArray] <;> omega) ⟨.int ys.length, H, I.tok _, ⟨s.toks + 1, by rw [List.size_toArray, hlen]⟩, q⟩
  · obtain ⟨its, r', pl, hz⟩ := I.tuple hq
    have hlen := r'.length
    exact len_tuple pl (by simp only [List.size_toArray] <;> omega) ⟨.int ys.length, H, I.tok _, ⟨s.toks + 1, by rw [List.size_toArray, hlen]⟩, q⟩
theorem call_list_of : CallR X (.type "list") (fun xs H Q => ∃ p ys, xs = [.ref p] ∧ (SqL X.K H p ys ∨ SqT X.K H p ys) ∧ ∀ l, H l = none → Q (.ref l) (upd H l (.lst ys))) := by
  intro pins s σ H xs us Q I r h
  obtain ⟨p, ys, rfl, hq, q⟩ := h
  obtain ⟨u, rfl, rx⟩ := vals1 r
  cases rx
  have fin : ∀ (its : List Value), Vals ys its → ys.length ≤ sizeLine → ∀ (h' : Heap) (c' : Nat), (∀ b o', s.heap.get? b = some o' → h'.get? b = some o') →
      h'.get? s.heap.objs.size = some { cls := .type "list", dict := none, data := .seq its.toArray c', slots := #[] } → EP X pins σ Q (.ref s.heap.objs.size) { s with heap := h' } := fun its r' hz h' c' kp e =>
    ⟨.ref s.heap.objs.size, _, I.laid (t' := s.toks) kp (Nat.le_refl _) (show ObjOk X.prog X.w _ h' _ (.lst ys) from ⟨hz, its, c', r', e⟩), rfl, q _ (I.hok.fresh (Nat.le_refl _))⟩
  rcases hq with hq | hq
  · obtain ⟨its, r', pl, hz⟩ := I.list hq
    have hlen := r'.length
    obtain ⟨o, ho, hc, n, hd⟩ := pl.isList
    exact call_list_seq p (.inl rfl) ho hc hd (fun h' c' kp e => fin its r' hz h' c' kp e) (by simp only [List.size_toArray] <;> omega)
  · obtain ⟨its, r', pl, hz⟩ := I.tuple hq
    have hlen := r'.length
    obtain ⟨o, ho, hc, n, hd⟩ := pl
    exact call_list_seq p (.inr rfl) ho hc hd (fun h' c' kp e => fin its r' hz h' c' kp e) (by simp only [List.size_toArray] <;> omega)
/-! ### the call of a builtin's method: o.m(..) -/
/-- the value is of that builtin type -/
noncomputable def tyV (K : PySem.W.Frag) (T : String) (x : V) (H : Hp) : Prop := match x with
  | .str _ => T = "str"
  | .int _ => T = "int"
  | .ref p => (T = "list" ∧ ∃ xs, SqL K H p xs) ∨ (T = "tuple" ∧ ∃ o, K.lookup p = some o ∧ o.cls = .type "tuple" ∧ o.dict = none) ∨
      (T = "dict" ∧ ((∃ kvs, H p = some (.dK kvs)) ∨ ∃ kvs, H p = some (.dT kvs))) ∨ (T = "set" ∧ ∃ S n, H p = some (.set S n))
  | _ => False
theorem tyV_is {pins : List (Addr × Obj)} {σ : St} {H : Hp} {s : Shared} {T : String} {x : V} {v : Value} (I : Inv X pins σ H s) (r : RelV x v) (ty : tyV X.K T x H) :
    s.TypeIs v T ∧ ∀ a, v = .ref a → ∃ ob, s.heap.get? a = some ob ∧ ob.dict = none := by
  cases x with
  | str z =>
    obtain ⟨t, rfl⟩ := r
    cases (show T = "str" from ty)
    exact ⟨typeIs_str s z t, fun _ e => nomatch e⟩
  | int i =>
    obtain ⟨t, rfl⟩ := r
    cases (show T = "int" from ty)
    exact ⟨typeIs_int s i t, fun _ e => nomatch e⟩
  | ref p =>
    cases r
    rcases ty with ⟨rfl, xs, hq⟩ | ⟨rfl, o, hk, hc, hd⟩ | ⟨rfl, hk⟩ | ⟨rfl, S, n, hk⟩
    · obtain ⟨its, _, pl, _⟩ := I.list hq
      refine ⟨pl.isList.typeIs, fun a e => ?_⟩
      cases e
      obtain ⟨o, n, e, c, hd, _⟩ := pl
      exact ⟨o, e, hd⟩
    · refine ⟨⟨o, I.kIn p o hk, hc⟩, fun a e => ?_⟩
      cases e
      exact ⟨o, I.kIn _ o hk, hd⟩
    · have z : ∃ o, s.heap.get? p = some o ∧ o.ExactDict := by
        rcases hk with ⟨kvs, hk⟩ | ⟨kvs, hk⟩
        · obtain ⟨_, _, _, _, o, _, _, e, ex, _⟩ := I.hok p _ hk
          exact ⟨o, e, ex⟩
        · obtain ⟨_, _, _, _, o, _, _, e, ex, _⟩ := I.hok p _ hk
          exact ⟨o, e, ex⟩
      obtain ⟨o, e, ex⟩ := z
      refine ⟨⟨o, e, ex.1⟩, fun a e2 => ?_⟩
      cases e2
      exact ⟨o, e, ex.2.1⟩
    · obtain ⟨o, _, _, _, e, ex, _⟩ := I.hok p _ hk
      refine ⟨⟨o, e, ex.1⟩, fun a e2 => ?_⟩
      cases e2
      exact ⟨o, e, ex.2.1⟩
  | _ => exact False.elim ty
noncomputable def tBM (K : PySem.W.Frag) (T : String) (r : V → List V → Hp → VK → Prop) (to : TE) (t : TA) : TE := fun σ H Q => to σ H fun x H1 => tyV K T x H1 ∧ t σ H1 fun xs H2 => r x xs H2 Q
variable {o e : Expr} {es : List Expr} {to : TE} {t : TA} {name : Str} {apos cpos : Pos} {T id : String} {r : V → List V → Hp → VK → Prop}
theorem pe_bm (pa : PlainAttrs T) (slot : Slot T name id) (hty : typeOf (.builtin id) = pure (.type "method_descriptor")) (hm : MtR X id r) (ho : PE X o to) (ha : PA X (e :: es) t)
    (hbase : attributeBase o name X.env (eval o X.env) = eval o X.env := by rfl)
    (hfew : ((backTo cpos (starEach (e :: es) X.env)).all (fun x => !x.1) && (backToKw cpos (keywordEach [] X.env)).all (fun x => x.1.isSome)
      && decide ((e :: es).length + ([] : List Keyword).length + (if ([] : List Keyword).isEmpty then 0 else 1) < 30)) = true := by rfl)
    (hline : (apos.endLine == cpos.line) = true := by rfl) (hs : starEach (e :: es) X.env = (false, eval e X.env) :: starEach es X.env := by rfl) (hplain : (backTo cpos (starEach es X.env)).any (·.1) = false := by rfl) :
    PE X (.Call (.Attribute o name apos) (e :: es) [] cpos) (tBM X.K T r to t) := by
  intro pins s σ H Q I h
  refine wpAny_Call_method_late hbase hfew hline rfl (thn (ho pins s σ H _ I h) fun v s1 ⟨x, H1, I1, r1, ty, q1⟩ => ?_)
  obtain ⟨h1, h2⟩ := tyV_is I1 r1 ty
  refine ⟨T, id, pa, slot, hty, h1, h2, ?_⟩
  have hA := ha cpos pins s1 σ H1 _ I1 q1
  rw [hs] at hA ⊢
  refine Calls.callWith_builtin (by show (false || (backTo cpos (starEach es X.env)).any (·.1)) = false; rw [hplain] <;> rfl) (Calls.evalArgs_plain ?_)
  exact thn hA fun us s2 ⟨vs, H2, I2, r2, q2⟩ => hm pins s2 σ H2 x vs v us Q I2 r1 r2 q2
/- xs.append(e), list.index on a module's tuple .. are MtR facts of 06m -/
end
end L2

namespace L2
open PySem PySem.Spec PyProof.Rows

noncomputable def MtM (X : Cx) (id : String) (r : V → List V → Hp → VK → Prop) : Prop :=
  ∀ (pins : List (Addr × Obj)) (s : Shared) (σ : St) (H : Hp) (x : V) (xs : List V) (v : Value) (us : List Value) (Q : VK), Inv X pins σ H s → RelV x v → Vals xs us → r x xs H Q →
    wpAny (model X.prog X.w) X.A (call (.builtin id) (v :: us)) (EP X pins σ Q) X.xe s

/-! ### lists of values -/
theorem Vals.one : ∀ {x : V} {us : List Value}, Vals [x] us → ∃ u, us = [u] ∧ RelV x u
  | _, _, .cons r .nil => ⟨_, rfl, r⟩
theorem Vals.eraseIdx : ∀ {xs : List V} {us : List Value} (i : Nat), Vals xs us → Vals (xs.eraseIdx i) (us.eraseIdx i)
  | _, _, _, .nil => .nil
  | _, _, 0, .cons _ t => t
  | _, _, i + 1, .cons r t => .cons r (Vals.eraseIdx i t)
theorem Vals.rep {xs : List V} {us : List Value} (h : Vals xs us) : ∀ k : Nat, Vals (List.replicate k xs).flatten (List.replicate k us).flatten
  | 0 => .nil
  | k + 1 => by
    rw [List.replicate_succ, List.replicate_succ, List.flatten_cons, List.flatten_cons]
    exact Vals.append h (Vals.rep h k)
theorem foldl_rep (its : List Value) : ∀ (k : Nat) (acc : List Value),
    List.foldl (fun x1 x2 => x1 ++ x2) acc.toArray (List.replicate k its.toArray) = (acc ++ (List.replicate k its).flatten).toArray
  | 0, acc => by simp
  | k + 1, acc => by
    have e : acc.toArray ++ its.toArray = (acc ++ its).toArray := by simp
    have e2 : (acc ++ its) ++ (List.replicate k its).flatten = acc ++ (List.replicate (k + 1) its).flatten := by
      rw [List.replicate_succ, List.flatten_cons, List.append_assoc]
    rw [← e2, ← foldl_rep its k (acc ++ its), ← e, List.replicate_succ, List.foldl_cons]

section
variable {X : Cx} {pins : List (Addr × Obj)} {σ : St} {H : Hp} {s : Shared} {l b : Addr} {xs ys zs : List V}

/-! ### the two steps: a tracked list is rewritten, a new list is laid -/
theorem Inv.lset {its its' : List Value} {n : Nat} {f : Array Value → Array Value} {t' : Nat} (I : Inv X pins σ H s) (hH : H l = some (.lst xs))
    (e : s.heap.get? l = some { cls := .type "list", data := .seq its.toArray n }) (hf : f its.toArray = its'.toArray) (hv : Vals ys its') (hz : ys.length ≤ sizeLine) :
    Inv X pins σ (upd H l (.lst ys)) { s with heap := s.heap.update l (Obj.mapSeq f), toks := t' } := by
  have q := PySem.IsL.update e f
  rw [hf] at q
  refine I.write (x := l) (e := l) (by rw [hH]; exact trivial) (.inl rfl) (fun b' u hb hu => (Heap.get?_update_other s.heap (Obj.mapSeq f) (Ne.symm hb)).trans hu) ⟨_, q⟩ ?_
  exact ⟨hz, its', _, hv, q⟩
theorem Inv.lnew {its : List Value} {t' : Nat} (I : Inv X pins σ H s) (hv : Vals ys its) (hz : ys.length ≤ sizeLine) :
    Inv X pins σ (upd H s.heap.objs.size (.lst ys)) { s with heap := s.heap.push { cls := .type "list", data := .seq its.toArray }, toks := t' } :=
  I.laid (fun _ _ q => Heap.get?_push_of_some _ q) (Nat.le_refl _) ⟨hz, its, 0, hv, Heap.get?_push_size _ rfl⟩
theorem Inv.fresh (I : Inv X pins σ H s) : H s.heap.objs.size = none := I.hok.fresh (Nat.le_refl _)
theorem Inv.lstM (I : Inv X pins σ H s) (hH : H l = some (.lst xs)) : xs.length ≤ sizeLine ∧ ∃ (its : List Value) (n : Nat), Vals xs its ∧ xs.length = its.length ∧ s.heap.get? l = some { cls := .type "list", data := .seq its.toArray n } := by
  obtain ⟨z, its, n, r, e⟩ := I.hok l _ hH
  exact ⟨z, its, n, r, r.length, e⟩

theorem notLongL {n : Nat} (h : n ≤ sizeLine) : Builtin.List.listTooLong n = false := by
  unfold Builtin.List.listTooLong
  exact decide_eq_false (by omega)
end

section
variable {X : Cx}

/-! ### methods -/
noncomputable def rAppend : V → List V → Hp → VK → Prop := fun x vs H Q => ∃ l xs y, x = .ref l ∧ vs = [y] ∧ H l = some (.lst xs) ∧ xs.length < sizeLine ∧ Q .non (upd H l (.lst (xs ++ [y])))
theorem mt_append : MtM X "list.append" rAppend := by
  intro pins s σ H x vs v us Q I rx rv h
  obtain ⟨l, xs, y, rfl, rfl, hH, hz, q⟩ := h
  cases rx
  obtain ⟨u, rfl, ru⟩ := rv.one
  obtain ⟨z, its, n, r, hl, e⟩ := I.lstM hH
  refine call_meets F.slot_list_append ⟨_, e, rfl⟩ F.entry_list_append (F.args_list_append_2 _ _) (PySem.list_append l its.toArray n u (by rw [List.size_toArray]; omega)) ⟨e, ?_⟩
  refine ⟨.non, _, I.lset (its' := its ++ [u]) hH e (by simp) (r.append (.cons ru .nil)) ?_, rfl, q⟩
  rw [List.length_append, List.length_singleton]
  omega

noncomputable def rExtend : V → List V → Hp → VK → Prop := fun x vs H Q => ∃ l b xs zs, x = .ref l ∧ vs = [.ref b] ∧ H l = some (.lst xs) ∧ H b = some (.lst zs) ∧ xs.length + zs.length ≤ sizeLine ∧ Q .non (upd H l (.lst (xs ++ zs)))
theorem mt_extend : MtM X "list.extend" rExtend := by
  intro pins s σ H x vs v us Q I rx rv h
  obtain ⟨l, b, xs, zs, rfl, rfl, hH, hB, hz, q⟩ := h
  cases rx
  obtain ⟨u, rfl, ru⟩ := rv.one
  cases ru
  obtain ⟨z, its, n, r, hl, e⟩ := I.lstM hH
  obtain ⟨z2, its2, n2, r2, hl2, e2⟩ := I.lstM hB
  have hsz : its.toArray.size + its2.toArray.size ≤ sizeLine := by rw [List.size_toArray, List.size_toArray]; omega
  have hlong : ¬ (!its.toArray.isEmpty && Builtin.List.listTooLong (its.toArray.size + its2.toArray.size)) = true := by
    rw [notLongL hsz, Bool.and_false]
    exact Bool.false_ne_true
  refine call_meets F.slot_list_extend ⟨_, e, rfl⟩ F.entry_list_extend (F.args_list_extend_2 _ _)
    (AutoSeq1.list_extend_list_list_0 l its.toArray n b its2.toArray n2 hlong (by rw [List.size_toArray]; omega) (by omega)) ⟨e, e2, ?_⟩
  refine ⟨.non, _, I.lset (its' := its ++ its2) hH e (by simp) (r.append r2) ?_, rfl, q⟩
  rw [List.length_append]
  omega

/-! ### list + list, list += list, list * int -/
noncomputable def rCat : R2 := fun x y H Q => ∃ l b xs zs, x = .ref l ∧ y = .ref b ∧ H l = some (.lst xs) ∧ H b = some (.lst zs) ∧ xs.length + zs.length ≤ sizeLine ∧ ∀ p, H p = none → Q (.ref p) (upd H p (.lst (xs ++ zs)))
theorem op_cat : OpR X (binaryOp .Add) rCat := by
  intro pins s σ H x y v u Q I rx ry h
  obtain ⟨l, b, xs, zs, rfl, rfl, hH, hB, hz, q⟩ := h
  cases rx
  cases ry
  obtain ⟨z, its, n, r, hl, e⟩ := I.lstM hH
  obtain ⟨z2, its2, n2, r2, hl2, e2⟩ := I.lstM hB
  refine PySem.P.add_list e e2 ?_ (by rw [List.size_toArray, List.size_toArray]; omega)
  have ea : its.toArray ++ its2.toArray = (its ++ its2).toArray := by simp
  rw [ea]
  exact ⟨.ref _, _, I.lnew (t' := s.toks) (r.append r2) (by rw [List.length_append]; omega), rfl, q _ I.fresh⟩
/-- a list times an int (a negative one is nothing) -/
noncomputable def rRep : R2 := fun x y H Q => ∃ l k xs, x = .ref l ∧ y = .int k ∧ H l = some (.lst xs) ∧ -(2 ^ 63) ≤ k ∧ k < 2 ^ 63 ∧ xs.length * k.toNat ≤ sizeLine ∧
  ∀ p, H p = none → Q (.ref p) (upd H p (.lst (List.replicate k.toNat xs).flatten))
theorem len_rep {α : Type} (xs : List α) (k : Nat) : (List.replicate k xs).flatten.length = k * xs.length := by
  induction k with
  | zero => simp
  | succ k ih => rw [List.replicate_succ, List.flatten_cons, List.length_append, ih, Nat.succ_mul, Nat.add_comm]
theorem op_rep : OpR X (binaryOp .Mult) rRep := by
  intro pins s σ H x y v u Q I rx ry h
  obtain ⟨l, k, xs, rfl, rfl, hH, h1, h2, hz, q⟩ := h
  cases rx
  obtain ⟨t, rfl⟩ := ry
  obtain ⟨z, its, n, r, hl, e⟩ := I.lstM hH
  have hlen : its.toArray.size * k.toNat ≤ sizeLine := by rw [List.size_toArray, ← hl]; exact hz
  have hcap : ¬ its.toArray.size * k.toNat > (2 ^ 63 - 1) / 8 := by
    have : (sizeLine : Nat) ≤ (2 ^ 63 - 1) / 8 := by decide
    omega
  have hfit : ¬ (!Builtin.List.listFitsIndex k) = true := by
    rw [fitsIndex_both h1 h2]
    exact Bool.false_ne_true
  have hlong : ¬ Builtin.List.listTooLong (its.toArray.size * k.toNat) = true := by
    rw [notLongL hlen]
    exact Bool.false_ne_true
  have hnew : List.foldl (fun x1 x2 => x1 ++ x2) #[] (List.replicate (if its.toArray.isEmpty = true then 0 else k.toNat) its.toArray) = (List.replicate k.toNat its).flatten.toArray := by
    have f0 : ∀ m : Nat, List.foldl (fun x1 x2 => x1 ++ x2) #[] (List.replicate m its.toArray) = (List.replicate m its).flatten.toArray := fun m => by
      have := foldl_rep its m []
      rw [List.nil_append] at this
      exact this
    rw [f0]
    cases its with
    | nil => simp
    | cons a r' => rw [if_neg (by simp)]
  refine wpAny_binaryOp_repeat_ref (T := "list") (U := "int") (by decide) ⟨_, e, rfl⟩ (fun s' => typeIs_int s' k t) noFill_list_mul F.fills_int_mul F.slot_int_rmul repeat_list F.slot_int_index.lookup
    (call_meets F.slot_int_rmul (typeIs_int s k t) F.entry_int_rmul (F.args_int_rmul_2 _ _) (int___rmul___int_list k t l its.toArray n)
      ⟨e, rfl, ⟨_, e, rfl⟩, call_meets F.slot_list_mul ⟨_, e, rfl⟩ F.entry_list_mul (F.args_list_mul_2 _ _) (AutoListH.list___mul___list_int_3 l its.toArray n k t hfit hcap hlong) ⟨e, ?_⟩⟩)
  rw [hnew]
  exact ⟨.ref _, _, I.lnew (t' := s.toks) (r.rep k.toNat) (by rw [len_rep, Nat.mul_comm]; exact hz), rfl, q _ I.fresh⟩

/-! ### del xs[i] -/
end

/-! ### xs[a:b] = ys -/
section
variable {prog : Program} {w : World} {A : Around} {E : Value → Shared → Prop} {s : Shared}
set_option maxRecDepth 100000 in
end

section
variable {X : Cx}
end
end L2

namespace Att
open PySem PySem.W PySem.Calls PyProof.Rows

/-! ### the script -/
theorem ints_of_wellAll {P : Params} {h : Heap} : ∀ (ns : List Int) (vs : List Value), WellAll P h vs (ns.map WData.int) → IntsAre vs ns := by
  intro ns
  induction ns with
  | nil =>
    intro vs w
    rw [List.map_nil] at w
    cases w
    exact .nil
  | cons n ns ih =>
    intro vs w
    rw [List.map_cons] at w
    cases w with
    | cons a b =>
      cases a
      exact .cons _ _ (ih _ b)

theorem script_of {l : OpenLaw} {n : Nat} (hn : l.most = some n) {P : Params} {h : Heap} {args : List WData} {vals : List Value}
    (hpre : l.row.toRowW.claim.pre args = true) (hwl : WellAll P h vals args) :
    ∃ a vs ns, vals = [Value.ref a] ∧ args = [WData.list (ns.map WData.int)] ∧ h.get? a = some { cls := .type "list", data := .seq vs.toArray } ∧ IntsAre vs ns ∧ ns.length ≤ n := by
  have hsh : WShape.hasAll [] args [.list .int] = true := (pre_splitW hpre).1
  have hc : l.pre.holds [] { args := args } = true := (pre_splitW hpre).2
  obtain ⟨d, r, rfl, h1, h2⟩ := hasAllW_cons hsh
  obtain rfl := hasAllW_nil h2
  obtain ⟨xs, rfl, h3⟩ := hasW_list h1
  obtain ⟨ns, rfl⟩ := items_int h3
  have hlen : ns.length ≤ n := by
    unfold OpenLaw.pre at hc
    have h4 : (WTm.not (.lt (.lit (.int (n : Int))) (.len (.arg 0)))).holds [] { args := [.list (ns.map .int)] } = true := by
      have h4 := (holds_andW hc).1
      rw [hn] at h4
      exact h4
    have h5 := condW_of h4 (w_not (w_lt w_lit (w_len_list (w_arg rfl))))
    rw [List.length_map] at h5
    refine Nat.le_of_not_lt fun q => ?_
    have q' : (n : Int) < ((ns.length : Nat) : Int) := by omega
    first
      | (rw [decide_eq_true q'] at h5; exact absurd h5 (by decide))
      | (simp at h5; omega)
  cases hwl with
  | cons w1 w2 =>
    cases w2
    cases w1 with
    | list ho hall => exact ⟨_, _, ns, rfl, rfl, ho, ints_of_wellAll ns _ hall, hlen⟩

theorem post_true (l : OpenLaw) (args : List WData) : l.row.toRowW.claim.post args (.bool true) args = true :=
  postW_of (r := l.row.toRowW) (X := (true == true))
    (show WShape.has [] (.bool true) .bool = true by first | rfl | decide | simp [WShape.has, WShape.arms, WShape.armsAll])
    (show (WTm.eq .res (.lit (.bool true))).value [] { args := args, res := some (.bool true), after := args } = some (.bool (true == true)) from w_eq_bool (w_res rfl) w_lit) rfl

/-! ### the attachment: holds_open's last premise (the goal 'hc' behind k_head) from a wpAny of the law's body -/
/-- the same from a codeAny of the CALL (for a layer whose function contracts speak of calls) -/
theorem attach_call {l : OpenLaw} {n : Nat} {q : Program} {loose : List Str} {XP : (Str → Option Value) → Heap → Prop} {YP : World → Heap → Prop} {d : DefRec}
    (hn : l.most = some n) (hdf : d.params.defaults = [])
    (call : ∀ (w : World) (s₀ s₁ : Shared) (mg mb : Str → Option Value) (fa : Addr) (o : Obj) (pm cd doc : Value) (a : Addr) (vs : List Value) (ns : List Int),
      Ground q loose [] XP w s₀ mg mb s₁.heap → YP w s₁.heap →
      s₁.heap.get? fa = some o → o.data = .func (docDef d.name d.params d.body d.scope pm cd doc) → s₁.heap.CodeRec cd d.name → mg d.name = some (.ref fa) →
      s₁.heap.get? a = some { cls := .type "list", data := .seq vs.toArray } → IntsAre vs ns → ns.length ≤ n → s₁.gens = #[] →
      codeAny (model l.prog w) callerA (.call (.ref fa) ⟨[.ref a], []⟩) (fun r s' => r = .ok (.ret (.bool true)) ∧ OldK s₁.heap s'.heap ∧ s'.os = s₁.os ∧ AllBare s'.gens) s₁) :
    WalkO q loose XP YP l.row.toRowW d [] (fun f vs => PySem.call f vs) := by
  intro w s₀ s₁ mg mb G Y fa o pm cd doc dV kV ho hd hcd hD hmg hg args vals as hpre hlay hrd hwl hlo
  obtain rfl : dV = .none := Dflts.none hD hdf
  obtain rfl : kV = .none := Dflts.noKw hD
  obtain ⟨a, vs, ns, rfl, rfl, hobj, hints, hlen⟩ := script_of hn hpre hwl
  refine enter_call (codeAny_mono (call w s₀ s₁ mg mb fa o pm cd doc a vs ns G Y ho (fd_plain hd) hcd hmg hobj hints hlen hg) fun r s' hq => ?_)
  obtain ⟨rfl, h2, h3, h4⟩ := hq
  exact ⟨.inl ⟨.bool true, .bool true, [], rfl, fun _ => rfl, .bool true, post_true l _, fun _ => ⟨List.Pairwise.nil, fun _ hm => (nomatch hm)⟩⟩, h2, h3, h4⟩

/-! ### rules over ANY heap (no ledger) from facts about the written part K: the library's own take a ledger (News) for what they write -/
section
variable {prog : Program} {w : World} {A : Around} {E : Value → Shared → Prop} {s : Shared} {K : Frag}

/-! the whole heap as the ledger: makes every rule that writes through a ledger a rule over any heap -/
noncomputable def ledger (h : Heap) (L d : Addr) : List (Addr × Obj) := (List.range h.objs.size).filterMap fun a => if a = L ∨ a = d then none else (h.get? a).map fun o => (a, o)
end
end Att

namespace L2
open PySem PySem.Spec PyProof.Rows

theorem vals_ints : ∀ {vs : List Value} {ns : List Int}, IntsAre vs ns → Vals (ns.map V.int) vs
  | _, _, .nil => .nil
  | _, _, .cons n t h => .cons ⟨t, rfl⟩ (vals_ints h)

/-- nothing is tracked but the script, known to the object (or it is an object of the module) -/
noncomputable def Only (H : Hp) : Prop := ∀ b, H b = none ∨ ∃ o xs, H b = some (.frz o (.lst xs))

/-- THE HEAD: the law's promise, at the heap behind the top. F, the promise of the law's def, may use that base is part of the heap (so K.In base, base.Ns mainGlobals mg stand in Mod) -/
theorem law_call {P : Program} {w : World} {K : PySem.W.Frag} {mg mb : Str → Option Value} {CX : CXT} {k : Nat} {fa a : Addr} {fd : FuncData} {x : Str} {sp : Sp} {s₁ : Shared} {vs : List Value} {ns : List Int}
    (KX : K.In s₁.heap) (hns : s₁.heap.Ns mainGlobals mg) (hb : s₁.heap.Ns builtinsNs mb) (hbb : ∀ x : Str, x ≠ "__name__" → mb x = bootBuiltins x) (hlim : s₁.heap.NoLimit) (hg : s₁.gens = #[])
    (ha : s₁.heap.get? a = some { cls := .type "list", data := .seq vs.toArray }) (hi : IntsAre vs ns) (hl : ns.length ≤ sizeLine) (hr : Room k callerA)
    (F : ∀ base : Heap, K.In base → base.Ns mainGlobals mg → FnOk P w K mg base CX k fa fd [x] sp) (hbind : ∀ (s : Shared) (u : Value), BindsTo s fd ⟨[u], []⟩ [(x, u)])
    (hsp : ∀ H : Hp, Only H → SqL K H a (ns.map V.int) → sp [.ref a] H (fun v _ => v = .bl true) fun _ _ _ => False)
    (hCX : ∀ H e s', CX [] H s₁ (fun _ _ _ => False) e s' → False) :
    codeAny (model P w) callerA (.call (.ref fa) ⟨[.ref a], []⟩) (fun r s' => r = .ok (.ret (.bool true)) ∧ OldK s₁.heap s'.heap ∧ s'.os = s₁.os ∧ AllBare s'.gens) s₁ := by
  have rv := vals_ints hi
  have lenV := hi.length
  -- from an abstract heap in which nothing but the script may be tracked
  have core : ∀ H : Hp, Only H → SqL K H a (ns.map V.int) → HOk P w H s₁.heap → (∀ b, H b ≠ none → b = a) → (H a ≠ none → K.lookup a = none) →
      codeAny (model P w) callerA (.call (.ref fa) ⟨[.ref a], []⟩) (fun r s' => r = .ok (.ret (.bool true)) ∧ OldK s₁.heap s'.heap ∧ s'.os = s₁.os ∧ AllBare s'.gens) s₁ := by
    intro H hO hS hok hA hK
    have base_of : ∀ {b : Addr} {o : Obj}, s₁.heap.get? b = some o → H b = none → (hidT s₁.heap H).get? b = some o := fun e n => hidT_get e n
    have noA : ∀ {b : Addr} {o : Obj} {es : Array DictEntry} {ep : Nat}, s₁.heap.get? b = some o → o.data = .dict es ep → H b = none := fun {b o es ep} e d => by
      cases q : H b with
      | none => rfl
      | some u =>
        have e' : b = a := hA b (by rw [q]; simp)
        subst e'
        rw [ha] at e; cases e
        have d' : Data.seq vs.toArray _ = Data.dict es ep := d
        cases d'
    have nsK : ∀ {b : Addr} {m : Str → Option Value}, s₁.heap.Ns b m → (hidT s₁.heap H).Ns b m := fun {b m} ⟨o, es, ep, e, d, r⟩ => ⟨o, es, ep, base_of e (noA e d), d, r⟩
    have hKb : K.In (hidT s₁.heap H) := fun b o e => base_of (KX b o e) (by
      cases q : H b with
      | none => rfl
      | some u =>
        have e' : b = a := hA b (by rw [q]; simp)
        subst e'
        rw [hK (by rw [q]; simp)] at e; cases e)
    have hM : Mod K mg (hidT s₁.heap H) := ⟨hKb, nsK hns, ⟨mb, nsK hb, hbb⟩, let ⟨mc, h1, h2⟩ := hlim; ⟨mc, nsK h1, h2⟩⟩
    have e0 : Env0 P w K mg (hidT s₁.heap H) callerA [] s₁ H := ⟨rfl, hM, fun b o e => of_hidT e, Nat.le_of_eq (hidT_size _ _), trivial, fun b hb => absurd (show b ∈ ([] : List Addr) from hb) (by simp), hok, .of_eq hg⟩
    refine codeAny_mono ((F _ hKb (nsK hns)).run callerA [] s₁ H ⟨[.ref a], []⟩ [.ref a] [.ref a] _ _ hr e0 (hbind s₁ (.ref a)) (.cons rfl .nil) (hsp H hO hS)) fun r s' h => ?_
    cases r with
    | error e => exact (hCX H e s' h).elim
    | ok fl =>
      cases fl with
      | next => exact False.elim h
      | brk => exact False.elim h
      | cont => exact False.elim h
      | ret u =>
        obtain ⟨v, H', os, bare, un, hok', r', q⟩ := h
        have q' : v = .bl true := q
        subst q'
        obtain rfl : u = Value.bool true := r'
        refine ⟨rfl, OldK.of_keep fun b o e => ?_, os, bare⟩
        cases q : H b with
        | none => exact un.keep b o e q (by intro z; exact absurd (show b ∈ ([] : List Addr) from z) (by simp)) (by simp)
        | some u =>
          rcases hO b with z | ⟨ob, xs, z⟩
          · rw [q] at z; cases z
          · have z2 := un.frzs b ob _ z
            obtain ⟨e1, _⟩ := hok b _ z
            obtain ⟨e2, _⟩ := hok' b _ z2
            rw [e] at e1; cases e1
            exact e2
  cases hk : K.lookup a with
  | some o =>
    -- the script is one of the module's own objects
    have e := KX a o hk
    rw [ha] at e
    cases e
    refine core (fun _ => none) (fun _ => .inl rfl) (.inr ⟨_, vs.toArray, _, hk, rfl, rfl, rfl, by rw [List.size_toArray, lenV]; exact hl, by simpa using rv⟩) (fun b u z => by have z' : (none : Option HO) = some u := z; cases z') (fun b z => absurd rfl z) fun z => absurd rfl z
  | none =>
    refine core (fun b => if b = a then some (.frz { cls := .type "list", data := .seq vs.toArray } (.lst (ns.map V.int))) else none) (fun b => ?_) (.inl (.inr ⟨{ cls := .type "list", data := .seq vs.toArray }, if_pos rfl⟩)) (fun b u z => ?_) (fun b z => ?_) fun _ => hk
    · by_cases hb : b = a
      · exact .inr ⟨_, _, if_pos hb⟩
      · exact .inl (if_neg hb)
    · by_cases hb : b = a
      · have z' := (if_pos hb).symm.trans z
        cases z'
        subst hb
        exact ⟨ha, by rw [List.length_map]; exact hl, vs, _, rv, ha⟩
      · have z' := (if_neg hb).symm.trans z
        cases z'
    · by_cases hb : b = a
      · exact hb
      · exact absurd (if_neg hb) z
end L2

namespace L2
open PySem PySem.Spec PyProof.Rows

noncomputable abbrev KOf {K : PySem.W.Frag} {h : Heap} (_ : K.In h) : PySem.W.Frag := K

/-- the goal that k_head leaves (case hc), from the law's promise. F gives the function object fd (K's own) once, then the promise over every base -/
theorem walk_of {l : PySem.W.OpenLaw} {n k : Nat} {q : Program} {loose : List Str} {XP : (Str → Option Value) → Heap → Prop} {YP : World → Heap → Prop} {d : DefRec} {K : Params → PySem.W.Frag} {CX : World → CXT} {sp : World → Sp} {x : Str}
    (hn : l.most = some n) (hn2 : n ≤ sizeLine) (hdf : d.params.defaults = []) (hr : Room k callerA)
    (hY : ∀ (w : World) (h : Heap), YP w h → (K w.params).In h)
    (F : ∀ (w : World) (mg : Str → Option Value) (fa : Addr) (h : Heap), (K w.params).In h → h.Ns mainGlobals mg → mg d.name = some (.ref fa) →
      ∃ fd : FuncData, (∀ (s : Shared) (u : Value), BindsTo s fd ⟨[u], []⟩ [(x, u)]) ∧
        ∀ base : Heap, (K w.params).In base → base.Ns mainGlobals mg → FnOk l.prog w (K w.params) mg base (CX w) k fa fd [x] (sp w))
    (hsp : ∀ (w : World) (H : Hp) (a : Addr) (ns : List Int), ns.length ≤ n → Only H → SqL (K w.params) H a (ns.map V.int) → sp w [.ref a] H (fun v _ => v = .bl true) fun _ _ _ => False)
    (hCX : ∀ (w : World) (H : Hp) (s : Shared) (e : Value) (s' : Shared), CX w [] H s (fun _ _ _ => False) e s' → False) :
    PySem.W.WalkO q loose XP YP l.row.toRowW d [] (fun f vs => PySem.call f vs) := by
  refine Att.attach_call hn hdf fun w s₀ s₁ mg mb fa o pm cd doc a vs ns G Y ho hd hcd hmg hobj hints hlen hg => ?_
  have KX := hY w _ Y
  obtain ⟨fd, hb, hF⟩ := F w mg fa _ KX G.T.g hmg
  exact law_call KX G.T.g G.T.b G.T.builtins G.T.nolimit hg hobj hints (Nat.le_trans hlen hn2) hr hF hb (fun H hO hS => hsp w H a ns hlen hO hS) fun H e s' => hCX w H s₁ e s'
end L2

/- THE LAST THEOREM (shape; LID, My.* are yours):
   My.Adr: a structure of the addresses that your layer names (classes, functions); My.Txt K t: a structure (Prop) of the equations over K;
   My.txt_mk : {K} {implicit addresses ..} (e1 : nsIn K mainGlobals "law" = some (some (.ref f))) (e2 : K.lookup f = some ⟨oc, od, .func (fnOf "law" "law" params body scope dV kV doc pm an cdv ct), sl⟩) (e3 : codeIn K cdv "law" = true) .. : ∃ t, My.Txt K t

set_option maxRecDepth 100000 in
set_option maxHeartbeats 0 in
theorem PySem.Challenge.cw_LID_holds : PySem.Challenge.rw_LID.Holds := by
  w_on; o_law; k_head; (case hw => w_witness2)
  k_fill
  refine L2.walk_of (l := PySem.Challenge.rw_LID) (n := 63) (k := 40) (x := "script") (CX := fun w => ..) (sp := fun _ => My.sp_law) rfl (by decide) rfl ⟨rfl, by decide, by decide⟩ (fun w h Y => PySem.W.kIn_of Y) ?F ?S ?C
  case F =>
    intro w mg fa h KX G hmg
    have T : ∃ t, My.Txt (L2.KOf KX) t := by
      dsimp only [L2.KOf]                          -- K must stand as «<heap const> w.params» for k_is
      refine' My.txt_mk ?e1 ?e2 ?e3 ..
      (case e1 => PySem.W.k_is)                    -- in the order: a name -> its address -> its object -> its parts
      (case e2 => PySem.W.k_is)
      ..
    obtain ⟨t, T⟩ := T
    have e0 := hmg.symm.trans (PySem.W.mg_of KX G T.law)
    cases e0                                       -- fa is the law's own address
    exact ⟨_, fun s u => .of_eq rfl, fun base kb nb => My.law_fn T kb nb⟩     -- if «.of_eq rfl» comes too early: refine' ⟨_, ?b, fun base kb nb => My.law_fn T kb nb⟩; exact fun s u => .of_eq rfl
  case S => exact fun w H a ns hl hO hS => ..
  case C => exact ..
(the tactic k_is has no namespace: write k_is) -/

/-! SHORT WORDS over the layer: a def of the text, its body, what a loop and a test want. -/
namespace L2
open PySem PySem.Spec PyProof.Rows

/-! ### the text by places -/
/-- the j-th statement of a class's body -/
noncomputable def inClass (s : Stmt) (j : Nat) : Stmt := match s with
  | .ClassDef _ _ _ body _ _ _ _ _ _ _ => body.getD j (.Pass ⟨0, 0, 0, 0⟩)
  | _ => .Pass ⟨0, 0, 0, 0⟩
noncomputable def defArgs (s : Stmt) : Arguments := match s with
  | .FunctionDef _ a _ _ _ _ _ _ _ _ => a
  | _ => { posonlyargs := [], args := [], vararg := none, kwonlyargs := [], kw_defaults := [], kwarg := none, defaults := [] }
noncomputable def defBody (s : Stmt) : List Stmt := match s with
  | .FunctionDef _ _ b _ _ _ _ _ _ _ => b
  | _ => []
noncomputable def defScope (s : Stmt) : Scope := match s with
  | .FunctionDef _ _ _ _ _ _ sc _ _ _ => sc
  | _ => { kind := .function, names := [], isGenerator := false, isCoroutine := false }

/-! ### no exception leaves a def -/
noncomputable abbrev CX0 : CXT := fun _ _ _ _ _ _ => False
noncomputable abbrev E0 : XK := fun _ _ _ => False
/-! ### a def (or method) of the text as it stands behind the top -/
structure Fun (K : PySem.W.Frag) (x qual : Str) (st : Stmt) (f : Addr) (fd : FuncData) : Prop where
  ex : ∃ (oc : Value) (od : Option Addr) (kV doc pm : Value) (an : Option Addr) (cdv ct : Value) (osl : Array (Option Value)),
    fd = PySem.W.fnOf x qual (defArgs st) (defBody st) (defScope st) .none kV doc pm an cdv ct ∧ K.lookup f = some ⟨oc, od, .func fd, osl⟩ ∧ PySem.W.codeIn K cdv qual = true
  kp : PySem.W.keepIn K (.ref f) = true
section
variable {P : Program} {w : World} {K : PySem.W.Frag} {mg : Str → Option Value} {base : Heap}
/-- THE RULE for a def: its body as a term of rules, and the reading of that term -/
theorem Fun.ok {x qual : Str} {st : Stmt} {f : Addr} {fd : FuncData} {N ps : List Str} {k : Nat} {sp : Sp} (F : Fun K x qual st f fd) (S : FnScope N ps (defScope st)) (len : ∀ vs H Q E, sp vs H Q E → vs.length = ps.length)
    (hbody : ∀ (cdv : Value) (A : Around) (outer : List Env) (s : Shared) (H : Hp) (vs : List V) (Q : VK) (E : XK), Room k (A.deeper (envOfC qual (defScope st) s.heap.objs.size f cdv)) → sp vs H Q E →
      ∃ t, PSs (cxOf CX0 P w K mg base N qual (defScope st) f cdv A outer s H E).nox (defBody st) t ∧ t { nx := fun _ H' => Q .non H', rt := Q } (start N vs) H) : FnOk P w K mg base CX0 (k + 1) f fd ps sp := by
  obtain ⟨oc, od, kV, doc, pm, an, cdv, ct, osl, rfl, lk, hcd⟩ := F.ex
  refine fn_of lk hcd S len fun A outer s H vs Q E hr hsp => ?_
  obtain ⟨t, h, q⟩ := hbody cdv A outer s H vs Q E hr hsp
  exact ⟨t, h.nox, q⟩
/-- how its arguments bind (no defaults): h is «fun _ _ _ _ _ _ us hl => match us, hl with | [_, _], _ => rfl», one _ a parameter -/
theorem Fun.binds {x qual : Str} {st : Stmt} {f : Addr} {fd : FuncData} {ps : List Str} (F : Fun K x qual st f fd)
    (h : ∀ (kV doc pm : Value) (an : Option Addr) (cdv ct : Value) (us : List Value), us.length = ps.length → bindArgs (PySem.W.fnOf x qual (defArgs st) (defBody st) (defScope st) .none kV doc pm an cdv ct) ⟨us, []⟩ = pure (ps.zip us)) : Binds K fd ps [] := by
  obtain ⟨oc, od, kV, doc, pm, an, cdv, ct, osl, rfl, lk, hcd⟩ := F.ex
  exact .all (h kV doc pm an cdv ct)
theorem fun_mk {x qual : Str} {st : Stmt} {f : Addr} {oc : Value} {od an : Option Addr} {osl : Array (Option Value)} {kV doc pm cdv ct : Value} (l : K.lookup f = some ⟨oc, od, .func (PySem.W.fnOf x qual (defArgs st) (defBody st) (defScope st) .none kV doc pm an cdv ct), osl⟩)
    (c : PySem.W.codeIn K cdv qual = true) (k : PySem.W.keepIn K (.ref f) = true) : Fun K x qual st f (PySem.W.fnOf x qual (defArgs st) (defBody st) (defScope st) .none kV doc pm an cdv ct) := ⟨⟨oc, od, kV, doc, pm, an, cdv, ct, osl, rfl, l, c⟩, k⟩
end
theorem hu_of {A : Around} {k : Nat} (hr : Room k A) : A.units + 1 < cLine := Nat.lt_of_le_of_lt (Nat.add_le_add_left (by decide : 1 ≤ 64) _) hr.units
/-! ### expressions in short: the name that stands in the i-th slot -/
section
variable {X : Cx}
theorem pv (i : Nat) {x : Str} {pos : Pos} (hN : X.N[i]? = some x := by rfl) (hv : Vis X.env.scope x := by first | exact Or.inl rfl | exact Or.inr (Or.inl rfl) | exact Or.inr (Or.inr rfl)) (hd : (x == ("__debug__" : Str)) = false := by decide)
    (hcd : (x == ("__classdict__" : Str)) = false := by decide) : PE X (.Name x pos) (tVar i) := pe_var hN hv hd hcd
end

/-! ### tests -/
theorem iteF {A B : Prop} (h : B) : if false = true then A else B := by
  rw [if_neg Bool.false_ne_true]
  exact h
theorem iteT {A B : Prop} (h : A) : if true = true then A else B := by
  rw [if_pos rfl]
  exact h
theorem ite2 {c A B : Prop} [Decidable c] (h1 : c → A) (h2 : ¬ c → B) : if c then A else B := by
  by_cases h : c
  · rw [if_pos h]
    exact h1 h
  · rw [if_neg h]
    exact h2 h
theorem iteNS {c A B : Prop} [Decidable c] (hc : c) (h : B) : if (!decide c) = true then A else B := by
  rw [decide_eq_true hc]
  exact iteF h

/-! ### heaps -/
/-- all that was tracked is as it was -/
noncomputable def Same (H H' : Hp) : Prop := ∀ b o, H b = some o → H' b = some o
theorem Same.refl (H : Hp) : Same H H := fun _ _ h => h
theorem Same.trans {H H1 H2 : Hp} (a : Same H H1) (b : Same H1 H2) : Same H H2 := fun c o h => b c o (a c o h)
theorem Same.free {H H' : Hp} (e : Same H H') {l : Addr} (h : H' l = Option.none) : H l = Option.none := by
  cases q : H l with
  | none => rfl
  | some o =>
    rw [e l o q] at h
    cases h
theorem Same.seq {K : PySem.W.Frag} {H H' : Hp} {a : Addr} {xs : List V} (e : Same H H') (h : SqL K H a xs) : SqL K H' a xs := by
  rcases h with (h | ⟨o, h⟩) | h
  · exact .inl (.inl (e _ _ h))
  · exact .inl (.inr ⟨o, e _ _ h⟩)
  · exact .inr h

end L2

set_option Elab.async false
set_option linter.all false
set_option maxRecDepth 100000
set_option maxHeartbeats 4000000
/-! Own rules over the hand layer: // by any small divisor, sum, isinstance, texts (loop, slice, join, times), comprehensions. -/
namespace L2
open PySem PySem.Spec PyProof.Rows
section
variable {X : Cx}

/-! ### // by a divisor of any usual size -/
noncomputable def CDivL (i j : Int) : Prop := 0 < j ∧ j.natAbs.log2 < 9000
theorem op_fdivL : OpR X (binaryOp .FloorDiv) (rI CDivL fun i j => .int (i / j)) := opI fun i j _ _ _ _ _ hc q => by
  have h1 : (0 : Int) < j := hc.1
  exact floordiv_int (by omega) (by rw [Int.fdiv_eq_ediv_of_nonneg i (by omega)]; exact q) (.inl (PyProof.noPylong_of_log2 hc.2))

/-! ### sum of a list of ints -/
/-! ### isinstance of one class -/
theorem call_isinst : CallR X (.builtin "isinstance") (fun xs H Q => ∃ x c cv t b, xs = [x, c] ∧ (∀ u, RelV c u → u = cv) ∧ TyOf X.K H x t ∧ PySem.W.kitOne X.K t cv = some b ∧ Q (.bl b) H) := by
  intro pins s σ H xs us Q I r h
  obtain ⟨x, c, cv, t, b, rfl, hcv, ty, e, q⟩ := h
  obtain ⟨u, w', rfl, r1, r2⟩ := vals2 r
  rw [hcv w' r2]
  exact isinst_ok I r1 ty e fun tk => ⟨.bl b, H, I.tok _, rfl, q⟩
theorem relTy {n : String} : ∀ u, RelV (.ty n) u → u = Value.type n := fun _ h => h

/-! ### texts -/
end

/-! ### comprehensions -/
theorem forIn_collect {α β : Type} {l : List α} {f : α → β → Sem (ForInStep β)} (g : β → α → β) (c : β) (h : ∀ x ∈ l, ∀ c, f x c = pure (.yield (g c x))) :
    forIn l c f = pure (l.foldl g c) := by
  induction l generalizing c with
  | nil => rfl
  | cons x l ih =>
    rw [List.forIn_cons, h x List.mem_cons_self, pure_bind]
    exact ih _ fun y hy => h y (List.mem_cons_of_mem _ hy)
noncomputable def clOf (cells : List (Str × Addr)) (names : List (Str × NameKind)) (acc : List (Str × Addr)) : List (Str × Addr) :=
  names.foldl (fun cs y => if y.2 == .free then (y.1, (cells.lookup y.1).getD 0) :: cs else cs) acc
theorem closure_eq {scope : Scope} {env : Env} (h : ∀ y ∈ scope.names, y.2 = .free → ∃ c, env.cells.lookup y.1 = some c) : closureFor scope env = pure (clOf env.cells scope.names []) := by
  simp only [closureFor]
  rw [forIn_collect (fun cs y => if y.2 == .free then (y.1, (env.cells.lookup y.1).getD 0) :: cs else cs) [] fun x hx c => ?_]
  · rfl
  · obtain ⟨n, k⟩ := x
    by_cases hk : k = .free
    · subst hk
      obtain ⟨a, ea⟩ := h (n, .free) hx rfl
      have ea' : env.cells.lookup n = some a := ea
      simp only [beq_self_eq_true, if_true, cellOf, ea', pure_bind, Option.getD_some]
    · have hb : (k == NameKind.free) = false := by simpa using hk
      simp only [hb, Bool.false_eq_true, if_false]
theorem lookup_mem {α : Type} : ∀ {l : List (Str × α)} {x : Str} {c : α}, l.lookup x = some c → (x, c) ∈ l
  | [], _, _, h => by simp at h
  | (y, d) :: r, x, c, h => by
    rw [List.lookup_cons] at h
    cases hx : x == y with
    | true =>
      rw [hx] at h
      have e : x = y := by simpa using hx
      subst e
      cases h
      exact List.mem_cons_self
    | false =>
      rw [hx] at h
      exact List.mem_cons_of_mem _ (lookup_mem h)
theorem mem_lookup {α : Type} : ∀ {l : List (Str × α)} {x : Str} {c : α}, (x, c) ∈ l → ∃ d, l.lookup x = some d
  | [], _, _, h => by cases h
  | (y, d) :: r, x, c, h => by
    rw [List.lookup_cons]
    cases hx : x == y with
    | true => exact ⟨d, rfl⟩
    | false =>
      rcases List.mem_cons.mp h with e | h
      · cases e; simp at hx
      · exact mem_lookup h
theorem clOf_mem {cells : List (Str × Addr)} : ∀ {names : List (Str × NameKind)} {acc : List (Str × Addr)} {p : Str × Addr}, p ∈ clOf cells names acc ↔ p ∈ acc ∨ ((p.1, NameKind.free) ∈ names ∧ p.2 = (cells.lookup p.1).getD 0)
  | [], acc, p => by simp [clOf]
  | (n, k) :: r, acc, p => by
    show p ∈ clOf cells r (if k == .free then (n, (cells.lookup n).getD 0) :: acc else acc) ↔ _
    rw [clOf_mem (names := r)]
    by_cases hk : k = .free
    · subst hk
      simp only [beq_self_eq_true, if_true, List.mem_cons]
      constructor
      · rintro ((rfl | h) | h)
        · exact .inr ⟨.inl rfl, rfl⟩
        · exact .inl h
        · exact .inr ⟨.inr h.1, h.2⟩
      · rintro (h | ⟨h | h, e⟩)
        · exact .inl (.inr h)
        · obtain ⟨a, b⟩ := p
          cases h
          exact .inl (.inl (by rw [show b = _ from e]))
        · exact .inr ⟨h, e⟩
    · have hb : (k == NameKind.free) = false := by simpa using hk
      simp only [hb, Bool.false_eq_true, if_false, List.mem_cons]
      constructor
      · rintro (h | h)
        · exact .inl h
        · exact .inr ⟨.inr h.1, h.2⟩
      · rintro (h | ⟨h | h, e⟩)
        · exact .inl h
        · cases h; exact absurd rfl hk
        · exact .inr ⟨h, e⟩
theorem relabel_mem {scope : Scope} {env : Env} {x : Str} {k : NameKind} (h : (relabel scope env).names.lookup x = some k) : ∃ k', (x, k') ∈ scope.names ∧ (k' = k ∨ (k' = .free ∧ k = .cell)) := by
  have m := lookup_mem h
  unfold relabel at m
  obtain ⟨⟨n, k'⟩, hm, e⟩ := List.mem_map.mp m
  dsimp only at e
  split at e
  · rename_i hc
    rw [Bool.and_eq_true, Bool.and_eq_true] at hc
    have e1 : n = x := congrArg Prod.fst e
    have e2 : NameKind.cell = k := congrArg Prod.snd e
    subst e1 e2
    exact ⟨k', hm, .inr ⟨by simpa using hc.1.1, rfl⟩⟩
  · have e1 : n = x := congrArg Prod.fst e
    have e2 : k' = k := congrArg Prod.snd e
    subst e1 e2
    exact ⟨k', hm, .inl rfl⟩

/-- the context of a comprehension's block -/
noncomputable def subCx (X : Cx) (scope : Scope) (N : List Str) (cl : List (Str × Addr)) (C : Addr) (s : Shared) (H : Hp) (fp : List Addr) (xe : Value → Shared → Prop) : Cx :=
  { X with N := N, s₀ := s, H₀ := H, env := compEnvC scope cl C X.env, outer := X.stack, stack := X.stack, ex := fp, fn := fun _ => false, pn := [], xe := xe }
/-- which names of the block are the def's (and where they stand there) -/
inductive Caps (X : Cx) (scope : Scope) : List Str → List (Option Nat) → Prop where
  | nil : Caps X scope [] []
  | own {x : Str} {N : List Str} {ix : List (Option Nat)} (r : Caps X scope N ix) : Caps X scope (x :: N) (none :: ix)
  | cap {x : Str} {j : Nat} {N : List Str} {ix : List (Option Nat)} (h1 : X.N[j]? = some x) (h2 : X.env.kindOf x = some .cell) (h3 : (relabel scope X.env).names.lookup x = some .cell) (r : Caps X scope N ix) : Caps X scope (x :: N) (some j :: ix)
noncomputable def capS (ix : List (Option Nat)) (σ : St) : St := ix.map fun o => match o with
  | none => none
  | some j => (σ[j]?).getD none
theorem Caps.get {X : Cx} {scope : Scope} {σ : St} : ∀ {N : List Str} {ix : List (Option Nat)}, Caps X scope N ix → ∀ (i : Nat) (x : Str) (v : V), N[i]? = some x → (capS ix σ)[i]? = some (some v) →
    ∃ j : Nat, X.N[j]? = some x ∧ σ[j]? = some (some v) ∧ X.env.kindOf x = some .cell ∧ (relabel scope X.env).names.lookup x = some .cell
  | _, _, .nil, i, x, v, h, _ => by simp at h
  | _, _, .own r, 0, x, v, _, h => by simp [capS] at h
  | _, _, .own r, i + 1, x, v, h1, h2 => r.get i x v (by simpa using h1) (by simpa [capS] using h2)
  | _, _, .cap (j := j) e1 e2 e3 r, 0, x, v, h1, h2 => by
    simp at h1
    subst h1
    refine ⟨j, e1, ?_, e2, e3⟩
    simp only [capS, List.map_cons, List.getElem?_cons_zero, Option.some.injEq] at h2
    cases q : σ[j]? with
    | none => rw [q] at h2; cases h2
    | some o => rw [q] at h2; simp only [Option.getD_some] at h2; rw [h2]
  | _, _, .cap e1 e2 e3 r, i + 1, x, v, h1, h2 => r.get i x v (by simpa using h1) (by simpa [capS] using h2)
theorem Caps.length {X : Cx} {scope : Scope} {N : List Str} {ix : List (Option Nat)} (h : Caps X scope N ix) : ix.length = N.length := by
  induction h with
  | nil => rfl
  | own _ ih => simp [ih]
  | cap _ _ _ _ ih => simp [ih]
/-- a store that knows at least as much -/
noncomputable def Ext (a b : St) : Prop := b.length = a.length ∧ ∀ (i : Nat) v, a[i]? = some (some v) → b[i]? = some (some v)
theorem Ext.set {a : St} {i : Nat} {v : V} (h : a[i]? = some none) : Ext a (a.set i (some v)) := by
  refine ⟨by simp, fun j w e => ?_⟩
  by_cases hj : j = i
  · subst hj; rw [h] at e; cases e
  · rw [List.getElem?_set_ne (Ne.symm hj)]; exact e
theorem Ext.trans {a b c : St} (h : Ext a b) (h' : Ext b c) : Ext a c := ⟨h'.1.trans h.1, fun i v e => h'.2 i v (h.2 i v e)⟩

/-- the tests of a comprehension -/
noncomputable def PTs (X : Cx) (ifs : List Expr) (t : TT) : Prop :=
  ∀ (pins : List (Addr × Obj)) (s : Shared) (σ : St) (H : Hp) (Q : Bool → Hp → Prop), Inv X pins σ H s → t σ H Q →
    wpAny (model X.prog X.w) X.A (forIn ifs true fun c r => if r = true then do let ok ← isTrue c X.env (eval c X.env); pure (ForInStep.yield ok) else pure (ForInStep.yield r)) (TP X pins σ Q) X.xe s
noncomputable def ttNil : TT := fun _ H Q => Q true H
theorem pts_nil {X : Cx} : PTs X [] ttNil := fun pins s σ H Q I h => wpAny_tests_nil ⟨H, I, h⟩
theorem pts_one {X : Cx} {c : Expr} {t : TT} (h : PT X c t) : PTs X [c] t := fun pins s σ H Q I q => wpAny_tests_one (h pins s σ H Q I q)

/-- the turns of a comprehension: W is what holds between two of them -/
noncomputable def CompW (J : It) (g : TG) (tt : TT) (te : TE) (σ0 : St) (D : Addr) (Q : VK) (H1 : Hp) : Prop := ∃ W : Nat → Nat → List V → Hp → Prop, (∃ m, W 0 m [] (upd H1 D (.lst []))) ∧ ∀ i m ys H, W i m ys H →
  (J.stop i H ∧ Q (.ref D) H) ∨ (J.go i H ∧ ∀ x H', J.yld i H x H' → g x σ0 H' fun σ2 H2 => Ext σ0 σ2 ∧ tt σ2 H2 fun b H3 =>
    if b = true then te σ2 H3 fun v H4 => H4 D = some (.lst ys) ∧ ys.length < sizeLine ∧ ∃ m', m' < m ∧ W (i + 1) m' (ys ++ [v]) (upd H4 D (.lst (ys ++ [v]))) else ∃ m', m' < m ∧ W (i + 1) m' ys H3)
noncomputable def tComp (wi : TI) (g : TG) (tt : TT) (te : TE) (ix : List (Option Nat)) : TE := fun σ H Q => wi σ H fun J H1 => ∀ D, H1 D = none → CompW J g tt te (capS ix σ) D Q H1

section
variable {prog : Program} {w : World} {A : Around} {R : Result → Shared → Prop} {s : Shared}
theorem comp_loop {elt target iter : Expr} {ifs : List Expr} {scope : Scope} {pos : Pos} {it acc : Value} {env : Env} (I : Nat → Shared → Prop)
    (turn : ∀ n s, I n s → wpAny (model prog w) A (pyNext it) (fun r s₁ => match r with
      | none => R (.ok .next) s₁
      | some v => wpAny (model prog w) A (letOwnedTupleGo target it v) (fun _ s₁' => wpAny (model prog w) A (assign target env v) (fun _ s₂ =>
          wpAny (model prog w) A (forIn ifs true fun c r => if r = true then do let ok ← isTrue c env (eval c env); pure (ForInStep.yield ok) else pure (ForInStep.yield r)) (fun ok s₃ =>
            if ok = true then wpAny (model prog w) A (eval elt env) (fun x s₄ =>
              wpAny (model prog w) A (call (.builtin "list.append") [acc, x]) (fun _ s₅ => ∃ m, m < n ∧ I m s₅) (notedBy (model prog w) A env fun e s' => R (.error e) s') s₄) (notedBy (model prog w) A env fun e s' => R (.error e) s') s₃
            else ∃ m, m < n ∧ I m s₃) (notedBy (model prog w) A env fun e s' => R (.error e) s') s₂) (notedBy (model prog w) A env fun e s' => R (.error e) s') s₁') (notedBy (model prog w) A env fun e s' => R (.error e) s') s₁) (notedBy (model prog w) A env fun e s' => R (.error e) s') s)
    (n : Nat) (h : I n s) : codeAny (model prog w) A (.compLoop (.ListComp elt [⟨target, iter, ifs, 0⟩] scope pos) 0 it acc env) R s := by
  refine codeAny_loop rfl I (fun n s hI => ?_) n h
  show wpAny _ A ((compTurn (.ListComp elt [⟨target, iter, ifs, 0⟩] scope pos) 0 it acc env).onRaise (fun x => do noteFrame x env; theTreesLotGoes x)) _ _ s
  refine wpAny_noted ?_
  rw [compTurn_list]
  refine wpAny_bind (wpAny_standAt (wpAny_bind (wpAny_mono (turn n s hI) (fun r s₁ h₁ => ?_) fun _ _ h' => h')))
  cases r with
  | none => exact wpAny_pure h₁
  | some v =>
    refine wpAny_bind (wpAny_mono h₁ (fun _ s₁' h₁' => ?_) fun _ _ h' => h')
    refine wpAny_bind (wpAny_mono h₁' (fun _ s₂ h₂ => wpAny_bind (wpAny_mono h₂ (fun ok s₃ h₃ => ?_) fun _ _ h' => h')) fun _ _ h' => h')
    cases ok with
    | false => exact wpAny_pure ⟨rfl, h₃⟩
    | true =>
      exact wpAny_bind (wpAny_bind (wpAny_mono h₃ (fun x s₄ h₄ => wpAny_bind (wpAny_mono h₄ (fun _ s₅ h₅ => wpAny_pure (wpAny_pure ⟨rfl, h₅⟩)) fun _ _ h' => h')) fun _ _ h' => h'))
end

section
variable {X : Cx}
noncomputable def noCell (sc : Scope) : Bool := sc.names.all fun y => y.2 != .cell
noncomputable def freeOk (sc : Scope) (env : Env) : Bool := sc.names.all fun y => y.2 != .free || env.kindOf y.1 == some .cell
noncomputable def namesOk (sc : Scope) : Bool := sc.names.all fun y => y.2 != .local || sc.names.lookup y.1 == some .local
/-- what is known of the block's own namespace behind the block -/
structure BlockEnd (X : Cx) (pins : List (Addr × Obj)) (σ : St) (H : Hp) (C : Addr) (s : Shared) : Prop where
  inv : Inv X pins σ H s
  ns : ∃ m, s.heap.Ns C m
  free : H C = none
  loc : C ≠ X.env.locals
  young : X.s₀.heap.objs.size ≤ C
  cell : ∀ x c, X.env.cells.lookup x = some c → c ≠ C
  pin : ∀ p ∈ X.pn ++ pins, p.1 ≠ C
theorem BlockEnd.gone {pins : List (Addr × Obj)} {σ : St} {H : Hp} {C : Addr} {s : Shared} (B : BlockEnd X pins σ H C s) {h' : Heap} (hs : Heap.SameBut C s.heap h') : Inv X pins σ H { s with heap := h' } :=
  B.inv.turned (t' := s.toks) (it := C) (fun b o hb e => hs.extBut b o hb e) B.free B.loc (.inr B.young) B.cell B.pin
theorem comp_core {elt tg iter : Expr} {ifs : List Expr} {scope : Scope} {pos pos' : Pos} {N : List Str} {ix : List (Option Nat)} {wi : TI} {g : TG} {tt : TT} {te : TE} {use : Option (Value → Sem Unit)} {Qv : Value → Shared → Prop}
    (hc : X.calm = true) (hi : PI X tg iter wi) (hk : scope.kind = .function) (hcell0 : noCell scope = true) (hfree0 : freeOk scope X.env = true) (hnames0 : namesOk scope = true) (caps : Caps X scope N ix)
    (hg : ∀ cl C s H fp xe, PG (subCx X scope N cl C s H fp xe) tg g) (ht : ∀ cl C s H fp xe, PTs (subCx X scope N cl C s H fp xe) ifs tt) (he : ∀ cl C s H fp xe, PE (subCx X scope N cl C s H fp xe) elt te)
    (hs : ∀ x, foldedSetIterable iter X.env x = pure x)
    {pins : List (Addr × Obj)} {s : Shared} {σ : St} {H : Hp} {Q : VK} (I : Inv X pins σ H s) (h : tComp wi g tt te ix σ H Q)
    (fin : ∀ (C D : Addr) (H6 : Hp) (s6 : Shared), BlockEnd X pins σ H6 C s6 → Q (.ref D) H6 → compPost (model X.prog X.w) X.A X.xe use Qv (.ref D) C (.ok .next) s6) :
    wpAny (model X.prog X.w) X.A (comprehension (.ListComp elt [⟨tg, iter, ifs, 0⟩] scope pos) scope X.env pos' (newList []) false (eval iter X.env) use) Qv X.xe s := by
  have hcell : ∀ y ∈ scope.names, y.2 ≠ .cell := fun y hy e => by
    have := List.all_eq_true.mp hcell0 y hy
    rw [e] at this; exact absurd this (by decide)
  have hfree : ∀ y ∈ scope.names, y.2 = .free → X.env.kindOf y.1 = some .cell := fun y hy e => by
    have := List.all_eq_true.mp hfree0 y hy
    rw [e] at this; simpa using this
  have hnames : ∀ y ∈ scope.names, y.2 = .local → scope.names.lookup y.1 = some .local := fun y hy e => by
    have := List.all_eq_true.mp hnames0 y hy
    rw [e] at this; simpa using this
  have hcl : ∀ y ∈ scope.names, y.2 = .free → ∃ c, X.env.cells.lookup y.1 = some c := fun y hy e => I.ok.has y.1 (.inl (hfree y hy e))
  refine wpAny_comprehension_free (use := use) rfl hs (closure_eq hcl) hk hnames ?_
  generalize ecl : clOf X.env.cells scope.names [] = cl
  -- the cells of the block are the def's
  have cl1 : ∀ x c, cl.lookup x = some c → X.env.cells.lookup x = some c := fun x c e => by
    have m := lookup_mem e
    rw [← ecl] at m
    rcases clOf_mem.mp m with z | ⟨z, z'⟩
    · cases z
    · obtain ⟨a, ea⟩ := hcl _ z rfl
      have ea' : X.env.cells.lookup x = some a := ea
      have z2 : c = (X.env.cells.lookup x).getD 0 := z'
      rw [ea', Option.getD_some] at z2
      rw [ea', z2]
  have cl2 : ∀ x, (x, NameKind.free) ∈ scope.names → ∃ c, cl.lookup x = some c := fun x hx => by
    have m : (x, (X.env.cells.lookup x).getD 0) ∈ cl := by rw [← ecl]; exact clOf_mem.mpr (.inr ⟨hx, rfl⟩)
    exact mem_lookup m
  refine thn (hi pins s σ H _ I h) fun v s1 h1 => thn h1 fun itv s2 h2 => ?_
  obtain ⟨it, fp, tn, J, H2, e, I2, T, st2, f2, body⟩ := h2
  subst e
  refine wpAny_newObj_type (wpAny_newFunctionEnv hcell (by intro y hy; simp at hy) (fun h₁ hns₁ hsb₁ => ?_) hk)
  dsimp only at hns₁ hsb₁ ⊢
  have hD : H2 s2.heap.objs.size = none := I2.hok.fresh (Nat.le_refl _)
  obtain ⟨W, ⟨m0, w0⟩, turn⟩ := body _ hD
  have I3 : Inv X pins σ (upd H2 s2.heap.objs.size (.lst [])) { s2 with heap := s2.heap.push { cls := .type "list", dict := none, data := .seq ([] : List Value).toArray } } :=
    I2.laid (t' := s2.toks) (fun b o e => Heap.get?_push_of_some _ e) (Nat.le_refl _) ⟨Nat.zero_le _, [], 0, .nil, Heap.get?_push_size _ rfl⟩
  generalize hs3 : ({ s2 with heap := s2.heap.push { cls := .type "list", dict := none, data := .seq ([] : List Value).toArray } } : Shared) = s3 at I3
  have es3 : s2.heap.push { cls := .type "list", dict := none, data := .seq ([] : List Value).toArray } = s3.heap := by rw [← hs3]
  rw [es3] at hns₁ hsb₁ ⊢
  generalize hD' : s2.heap.objs.size = D at *
  generalize hH3 : upd H2 D (.lst []) = H3 at *
  have szC : s3.heap.objs.size = D + 1 := by rw [← es3, Heap.size_push, hD']
  -- what was, is
  have old : ∀ b o, s3.heap.get? b = some o → h₁.get? b = some o := fun b o e => hsb₁.extBut b o (Nat.ne_of_lt (Heap.lt_size e)) (Heap.get?_push_of_some _ e)
  have fpl : ∀ b ∈ fp, b < D := fun b hb => by
    obtain ⟨o, e, _⟩ := T.obj 0 _ st2 b hb
    rw [← hD']; exact Heap.lt_size e
  have fpD : ∀ b ∈ fp, H3 b = none := fun b hb => by
    rw [← hH3, upd_ne (Nat.ne_of_lt (fpl b hb))]; exact (f2 b hb).1
  have fstk : ∀ b ∈ fp, b ∉ frs X.stack := fun b hb z => by
    obtain ⟨_, f1, f3, _⟩ := f2 b hb
    rcases List.mem_cons.mp (I2.stkSub b z) with e | e
    · exact f1 e
    · exact f3 e
  let E' : Value → Shared → Prop := notedBy (model X.prog X.w) X.A (compEnvC scope cl s3.heap.objs.size X.env) fun e s' => compPost (model X.prog X.w) X.A X.xe use Qv (.ref D) s3.heap.objs.size (.error e) s'
  have ok' : (subCx X scope N cl s3.heap.objs.size s3 H3 fp E').Ok := by
    refine { mod := I.ok.mod, kind := ?_, glob := I.ok.glob, blt := I.ok.blt, above := Nat.le_refl _, inj := ?_, has := ?_, cab := ?_, hd := I.ok.hd, frames := I.ok.frames, stk := .inl rfl, exf := ?_, bs := I3.bs, bsz := ?_, noex := ?_, exfs := fstk, funs := I3.stack, frf := I3.stkFree }
    · show (relabel scope X.env).kind = .function
      exact hk
    · exact fun x y c e1 e2 => I.ok.inj x y c (cl1 x c e1) (cl1 y c e2)
    · intro x hx
      have hx' : (relabel scope X.env).names.lookup x = some .cell ∨ (relabel scope X.env).names.lookup x = some .free := hx
      have : (x, NameKind.free) ∈ scope.names := by
        rcases hx' with e | e
        · obtain ⟨k', hm, z | ⟨z, _⟩⟩ := relabel_mem e
          · subst z; exact absurd rfl (hcell _ hm)
          · subst z; exact hm
        · obtain ⟨k', hm, z | ⟨z, z'⟩⟩ := relabel_mem e
          · subst z; exact hm
          · cases z'
      exact cl2 x this
    · intro x c z; cases z
    · intro b hb
      refine ⟨fun z => ?_, fun x c e => (f2 b hb).2.2.2.2.1 x c (cl1 x c e)⟩
      have lt := fpl b hb
      have z' : b = s3.heap.objs.size := z
      rw [z', szC] at lt
      exact absurd lt (Nat.not_lt.mpr (Nat.le_succ D))
    · exact Nat.le_trans I3.ok.bsz I3.sz
    · intro b o e hb
      rcases (f2 b hb).2.2.2.1 with z | z
      · exact I.ok.noex b o e z
      · exact absurd (Nat.lt_of_lt_of_le (Heap.lt_size e) (Nat.le_trans I.ok.bsz z)) (Nat.lt_irrefl _)
  have I4 : ∀ tk, Inv (subCx X scope N cl s3.heap.objs.size s3 H3 fp E') [] (capS ix σ) H3 { s3 with heap := h₁, toks := tk } := fun tk => by
    refine ⟨ok', rfl, I3.bare, Un.kept old, ⟨_, hns₁, fun i x v e1 e2 e3 => ?_⟩, fun x c e => ?_, ?_, fun x c e => I3.freeC x c (cl1 x c e), fun p hp => (by cases hp), I3.hok.kept old, ?_⟩
    · obtain ⟨j, j1, j2, j3, j4⟩ := caps.get i x v e1 e2
      obtain ⟨m, hn, hl⟩ := I3.loc
      obtain ⟨u, r, l⟩ := hl j x v j1 j2 (.inr (.inl j3))
      refine ⟨u, r, .inr ⟨.inl j4, ?_⟩⟩
      rcases l with ⟨l, _⟩ | ⟨_, c, ec, hcell⟩
      · have l' : X.env.kindOf x = some .local := l
        rw [j3] at l'; cases l'
      · obtain ⟨k', hm, z | ⟨z, _⟩⟩ := relabel_mem j4
        · subst z; exact absurd rfl (‹∀ y ∈ scope.names, y.2 ≠ .cell› _ hm)
        · subst z
          obtain ⟨c', ec'⟩ := cl2 x hm
          have := cl1 x c' ec'
          rw [ec] at this; cases this
          obtain ⟨o, ho, hd⟩ := hcell
          exact ⟨c, ec', o, old _ _ ho, hd⟩
    · obtain ⟨v, o, ho, hd⟩ := I3.cell x c (cl1 x c e)
      exact ⟨v, o, old _ _ ho, hd⟩
    · exact I3.hok.fresh (Nat.le_refl _)
    · show (capS ix σ).length = N.length
      rw [← caps.length]; simp [capS]
  have st4 : tn 0 h₁ := T.keep 0 _ _ st2 fun b hb o e => old b o (by rw [← es3]; exact Heap.get?_push_of_some _ e)
  -- the block's end
  have fin6 : ∀ (s6 : Shared) (H6 : Hp), Inv (subCx X scope N cl s3.heap.objs.size s3 H3 fp E') [] (capS ix σ) H6 s6 → Q (.ref D) H6 →
      compPost (model X.prog X.w) X.A X.xe use Qv (.ref D) s3.heap.objs.size (.ok .next) s6 := fun s6 H6 I6 q => by
    obtain ⟨m, hn, _⟩ := I6.loc
    refine fin s3.heap.objs.size D H6 s6 ⟨I3.call' (s' := s6) (ch := fp) I6.os I6.base I6.hok I6.bare ?_, ⟨m, hn⟩, I6.free, ?_, I3.sz, ?_, ?_⟩ q
    · intro b hb
      obtain ⟨_, f1, _, f3, f4, f5⟩ := f2 b hb
      exact ⟨f3, f1, f4, f5⟩
    · exact Nat.ne_of_gt I3.lt
    · intro x c e z
      obtain ⟨v, o, ho, _⟩ := I3.cell x c e
      exact absurd (Heap.lt_size ho) (by rw [z]; exact Nat.lt_irrefl _)
    · intro p hp z
      exact absurd (Heap.lt_size (I3.pin p hp).1) (by rw [z]; exact Nat.lt_irrefl _)
  -- the loop
  have loop : ∀ s4 : Shared, s4 = { s3 with heap := h₁, toks := s2.toks + ([] : List (Str × Value)).length } →
      codeAny (model X.prog X.w) X.A (.compLoop (.ListComp elt [⟨tg, iter, ifs, 0⟩] scope pos) 0 (.ref it) (.ref D) (compEnvC scope cl s3.heap.objs.size X.env)) (compPost (model X.prog X.w) X.A X.xe use Qv (.ref D) s3.heap.objs.size) s4 := by
    rintro s4 rfl
    refine comp_loop (fun n s' => ∃ i ys H', Inv (subCx X scope N cl s3.heap.objs.size s3 H3 fp E') [] (capS ix σ) H' s' ∧ tn i s'.heap ∧ (∀ b ∈ fp, H' b = none) ∧ W i n ys H') ?_ m0 ⟨0, [], H3, I4 _, st4, fpD, w0⟩
    rintro n s5 ⟨i, ys, H5, I5, st5, fr5, w5⟩
    have stat : ∀ {H' : Hp}, (∀ b ∈ fp, H' b = none) → ∀ b ∈ fp, FpOk (subCx X scope N cl s3.heap.objs.size s3 H3 fp E') [] H' b := fun hn b hb => by
      refine ⟨hn b hb, fun z => ?_, fstk b hb, .inl hb, fun x c e => (f2 b hb).2.2.2.2.1 x c (cl1 x c e), fun p hp => (by cases hp)⟩
      have lt := fpl b hb
      have z' : b = s3.heap.objs.size := z
      rw [z', szC] at lt
      exact absurd lt (Nat.not_lt.mpr (Nat.le_succ D))
    rcases turn i n ys H5 w5 with ⟨stop, q⟩ | ⟨go, step⟩
    · refine thn (T.done (subCx X scope N cl s3.heap.objs.size s3 H3 fp E') rfl rfl rfl hc i [] s5 _ H5 E' I5 (stat fr5) st5 stop) fun r s6 ⟨hr, I6⟩ => ?_
      subst hr
      exact fin6 s6 H5 I6 q
    · refine thn (T.item (subCx X scope N cl s3.heap.objs.size s3 H3 fp E') rfl rfl rfl hc i [] s5 _ H5 E' I5 (stat fr5) st5 go) fun r s6 ⟨u, hr, h6⟩ => ?_
      subst hr
      refine thn h6 fun _ s7 ⟨x, H7, I7, r7, y7, st7, fr7⟩ => ?_
      have I7' := I7.pinned (stat fr7) (T.obj _ _ st7)
      refine thn (hg cl s3.heap.objs.size s3 H3 fp E' _ s7 _ H7 x u _ I7' r7 (step x H7 y7)) fun _ s8 ⟨σ8, H8, I8, ext, q8⟩ => ?_
      have again : ∀ {σ9 : St} {H9 : Hp} {s9 : Shared} {m' : Nat} {zs : List V}, Ext (capS ix σ) σ9 → Inv (subCx X scope N cl s3.heap.objs.size s3 H3 fp E') ([] ++ pinsAt fp s7.heap) σ9 H9 s9 → m' < n → W (i + 1) m' zs H9 →
          ∃ m, m < n ∧ ∃ i ys H', Inv (subCx X scope N cl s3.heap.objs.size s3 H3 fp E') [] (capS ix σ) H' s9 ∧ tn i s9.heap ∧ (∀ b ∈ fp, H' b = none) ∧ W i m ys H' := fun {σ9 H9 s9 m' zs} ex I9 hm w9 => by
        refine ⟨m', hm, i + 1, zs, H9, (I9.unpinned).weak ex.1.symm ex.2, T.keep _ _ _ st7 fun b hb o e => (I9.pin (b, o) (List.mem_append_right _ (List.mem_append_right _ (mem_pinsAt hb e)))).1, fun b hb => ?_, w9⟩
        obtain ⟨o, e, d⟩ := T.obj _ _ st7 b hb
        exact (I9.pin (b, o) (List.mem_append_right _ (List.mem_append_right _ (mem_pinsAt hb e)))).2.1
      refine thn (ht cl s3.heap.objs.size s3 H3 fp E' _ s8 σ8 H8 _ I8 q8) fun ok s9 ⟨H9, I9, q9⟩ => ?_
      cases ok with
      | false =>
        obtain ⟨m', hm, w9⟩ := q9
        exact again ext I9 hm w9
      | true =>
        refine thn (he cl s3.heap.objs.size s3 H3 fp E' _ s9 σ8 H9 _ I9 q9) fun u10 s10 ⟨v10, H10, I10, r10, hDl, hlt, m', hm, w10⟩ => ?_
        refine thn (mt_append (X := subCx X scope N cl s3.heap.objs.size s3 H3 fp E') _ s10 σ8 H10 (.ref D) [v10] (.ref D) [u10] (fun _ H' => H' = upd H10 D (.lst (ys ++ [v10]))) I10 rfl (.cons r10 .nil) ⟨D, ys, v10, rfl, rfl, hDl, hlt, rfl⟩) fun _ s11 ⟨_, H11, I11, _, e11⟩ => ?_
        subst e11
        exact again ext I11 hm w10
  exact codeAny_compStart_list (loop _ (by rw [← hs3])) (T.self _ 0 _ _ _ st4 (loop _ (by rw [← hs3])))

/-- a comprehension as a value -/
theorem pe_comp {elt tg iter : Expr} {ifs : List Expr} {scope : Scope} {pos : Pos} {N : List Str} {ix : List (Option Nat)} {wi : TI} {g : TG} {tt : TT} {te : TE}
    (hc : X.calm = true) (hi : PI X tg iter wi) (hk : scope.kind = .function) (hcell0 : noCell scope = true) (hfree0 : freeOk scope X.env = true) (hnames0 : namesOk scope = true) (caps : Caps X scope N ix)
    (hg : ∀ cl C s H fp xe, PG (subCx X scope N cl C s H fp xe) tg g) (ht : ∀ cl C s H fp xe, PTs (subCx X scope N cl C s H fp xe) ifs tt) (he : ∀ cl C s H fp xe, PE (subCx X scope N cl C s H fp xe) elt te)
    (hs : ∀ x, foldedSetIterable iter X.env x = pure x := by intro _; rfl) :
    PE X (.ListComp elt [⟨tg, iter, ifs, 0⟩] scope pos) (tComp wi g tt te ix) := by
  intro pins s σ H Q I h
  rw [eval_ListComp]
  refine comp_core (use := none) hc hi hk hcell0 hfree0 hnames0 caps hg ht he hs I h fun C D H6 s6 B q => ?_
  obtain ⟨m, hn⟩ := B.ns
  exact ⟨m, hn, fun h' hsb => ⟨.ref D, H6, B.gone hsb, rfl, q⟩⟩
/-- y = [.. for ..] on one line: stored ahead of the block's end -/
noncomputable def tSetC (i : Nat) (te : TE) : TS := fun D σ H => te σ H fun x H1 => D.nx (σ.set i (some x)) H1
theorem ps_setComp {i : Nat} {y : Str} {py : Pos} {spos : Pos} {elt tg iter : Expr} {ifs : List Expr} {scope : Scope} {pos : Pos} {N : List Str} {ix : List (Option Nat)} {wi : TI} {g : TG} {tt : TT} {te : TE}
    (hN : X.N.Nodup) (hi' : X.N[i]? = some y) (hx : Loc X.env.scope y) (hsw : swapsWith (.ListComp elt [⟨tg, iter, ifs, 0⟩] scope pos) (some (.Name y py)) spos.line X.env = pure true)
    (hc : X.calm = true) (hi : PI X tg iter wi) (hk : scope.kind = .function) (hcell0 : noCell scope = true) (hfree0 : freeOk scope X.env = true) (hnames0 : namesOk scope = true) (caps : Caps X scope N ix)
    (hg : ∀ cl C s H fp xe, PG (subCx X scope N cl C s H fp xe) tg g) (ht : ∀ cl C s H fp xe, PTs (subCx X scope N cl C s H fp xe) ifs tt) (he : ∀ cl C s H fp xe, PE (subCx X scope N cl C s H fp xe) elt te)
    (hs : ∀ x, foldedSetIterable iter X.env x = pure x := by intro _; rfl) (hf : X.fn y = true ∨ X.env.scope.names.lookup y = some .local := by first | exact .inl rfl | exact .inr rfl | assumption) :
    PS X (.Assign [.Name y py] (.ListComp elt [⟨tg, iter, ifs, 0⟩] scope pos) spos) (tSetC i (tComp wi g tt te ix)) := by
  intro pins s σ H D I h
  rw [exec_Assign_Name_used _ _ _ _ hsw]
  refine wpAny_bind (wpAny_standAt (wpAny_bind ?_))
  show wpAny _ X.A (do let _ ← comprehension (.ListComp elt [⟨tg, iter, ifs, 0⟩] scope pos) scope X.env _ (newList []) false (eval iter X.env) (some (assign (.Name y py) X.env))) _ _ s
  refine wpAny_bind (wpAny_mono (comp_core (use := some (assign (.Name y py) X.env)) (Qv := fun _ s' => SP X pins D .next s') hc hi hk hcell0 hfree0 hnames0 caps hg ht he hs I h fun C a H6 s6 B q => ?_) (fun _ s' hq => wpAny_pure (wpAny_pure hq)) fun _ _ e => e)
  obtain ⟨m, hn⟩ := B.ns
  show wpAny _ X.A (assign (.Name y py) X.env (.ref a)) _ _ s6
  refine wpAny_assign_Name (store_ok2 B.inv hN hi' hx (v := .ref a) rfl (fun s7 I7 ⟨z, hz, hz'⟩ => ?_) hf)
  have hzC : C ≠ z := by
    rcases hz' with e | e
    · rw [e]; exact B.loc
    · exact fun w => B.cell y z e w.symm
  refine ⟨m, hn.sameBut hz hzC, fun h' hsb => ?_⟩
  have B7 : BlockEnd X pins (σ.set i (some (.ref a))) H6 C s7 := ⟨I7, ⟨m, hn.sameBut hz hzC⟩, B.free, B.loc, B.young, B.cell, B.pin⟩
  exact ⟨_, H6, B7.gone hsb, q⟩

/-- over a range, every element a value that needs nothing new -/
theorem comp_range {lo : Int} {n : Nat} {g : TG} {tt : TT} {te : TE} {σ0 : St} {H : Hp} {D : Addr} {Q : VK} (f : Nat → V) (hz : n ≤ sizeLine)
    (hs : ∀ (i : Nat) (H' : Hp) (R : VK) (R0 : Hp → Prop), i < n → (∀ b, b ≠ D → H' b = H b) → R (f i) H' → g (.int (lo + i)) σ0 H' fun σ2 H2 => Ext σ0 σ2 ∧ tt σ2 H2 fun b H3 => if b = true then te σ2 H3 R else R0 H3)
    (hq : Q (.ref D) (upd H D (.lst ((List.range n).map f)))) :
    CompW (Itr lo n) g tt te σ0 D Q H := by
  refine ⟨fun i m ys H' => m = n - i ∧ i ≤ n ∧ ys = (List.range i).map f ∧ H' = upd H D (.lst ys), ⟨n, by simp, Nat.zero_le _, rfl, rfl⟩, ?_⟩
  rintro i m ys H' ⟨rfl, hi, rfl, rfl⟩
  by_cases hlt : i < n
  · refine .inr ⟨hlt, fun x H'' y => ?_⟩
    obtain ⟨e, y⟩ := y
    subst e y
    refine hs i _ _ _ hlt (fun b hb => upd_ne hb) ⟨upd_same, by simp; omega, n - (i + 1), by omega, rfl, hlt, ?_, ?_⟩
    · rw [List.range_succ, List.map_append]; rfl
    · rw [upd_upd]
  · have e : i = n := by omega
    subst e
    exact .inl ⟨Nat.le_refl _, hq⟩
/-- over a list that stays, every element a value that needs nothing new -/
theorem comp_list {K : PySem.W.Frag} {a : Addr} {xs : List V} {g : TG} {tt : TT} {te : TE} {σ0 : St} {H : Hp} {D : Addr} {Q : VK} (f : V → V) (hz : xs.length ≤ sizeLine) (hx : SqL K H a xs) (hD : H D = none)
    (hs : ∀ (i : Nat) (x : V) (H' : Hp) (R : VK) (R0 : Hp → Prop), xs[i]? = some x → (∀ b, b ≠ D → H' b = H b) → R (f x) H' → g x σ0 H' fun σ2 H2 => Ext σ0 σ2 ∧ tt σ2 H2 fun b H3 => if b = true then te σ2 H3 R else R0 H3)
    (hq : Q (.ref D) (upd H D (.lst (xs.map f)))) :
    CompW (Itl K a) g tt te σ0 D Q H := by
  have stays : ∀ ys : List V, SqL K (upd H D (.lst ys)) a xs := fun ys => by
    have sm : Same H (upd H D (.lst ys)) := fun b u q => by rw [upd_ne (ne_of_none q hD)]; exact q
    exact sm.seq hx
  refine ⟨fun i m ys H' => m = xs.length - i ∧ i ≤ xs.length ∧ ys = (xs.take i).map f ∧ H' = upd H D (.lst ys), ⟨xs.length, by simp, Nat.zero_le _, by simp, rfl⟩, ?_⟩
  rintro i m ys H' ⟨rfl, hi, rfl, rfl⟩
  by_cases hlt : i < xs.length
  · refine .inr ⟨⟨xs, xs[i], stays _, by simp [hlt]⟩, fun x H'' y => ?_⟩
    obtain ⟨e, y⟩ := y
    subst e
    have ex := y xs (stays _)
    refine hs i x _ _ _ ex (fun b hb => upd_ne hb) ⟨upd_same, by simp; omega, xs.length - (i + 1), by omega, rfl, hlt, ?_, ?_⟩
    · rw [List.take_add_one, ex, List.map_append]; rfl
    · rw [upd_upd]
  · have e : i = xs.length := by omega
    subst e
    refine .inl ⟨⟨xs, stays _, Nat.le_refl _⟩, ?_⟩
    rw [List.take_length]
    exact hq
end
end L2

set_option Elab.async false
set_option linter.all false
set_option maxRecDepth 100000
set_option maxHeartbeats 4000000
/-! Own rules over the layer: exceptions of own classes, raised, passed on, caught. -/
namespace L2
open PySem PySem.Spec PyProof.Rows
section
variable {P : Program} {w : World} {H : Hp} {h h' : Heap} {a : Addr} {o : HO}
theorem ObjOk.there (x : ObjOk P w H h a o) : ∃ u, h.get? a = some u := by
  cases o with
  | lst xs => obtain ⟨_, _, _, _, e⟩ := x; exact ⟨_, e⟩
  | tup xs => obtain ⟨_, _, _, _, e, _⟩ := x; exact ⟨_, e⟩
  | dK kvs => obtain ⟨_, _, _, _, _, _, _, e, _⟩ := x; exact ⟨_, e⟩
  | dT kvs => obtain ⟨_, _, _, _, _, _, _, e, _⟩ := x; exact ⟨_, e⟩
  | set S n => obtain ⟨_, _, _, _, e, _⟩ := x; exact ⟨_, e⟩
  | ins C dx fs => obtain ⟨_, _, _, e, _⟩ := x; exact ⟨_, e⟩
  | own y => obtain ⟨_, e⟩ := x; exact ⟨_, e⟩
  | xd fs => obtain ⟨_, ⟨_, _, _, e, _⟩, _⟩ := x; exact ⟨_, e⟩
  | rng lo hi => obtain ⟨_, _, _, e⟩ := x; exact ⟨_, e⟩
  | frz ob u => obtain ⟨e, _⟩ := x; exact ⟨_, e⟩
  | tbl ps => exact ⟨_, show h.get? a = some _ from x⟩
  | met f y => exact ⟨_, show h.get? a = some _ from x⟩
  | ext φ => obtain ⟨_, e, _⟩ := x; exact e
theorem HOk.none (x : HOk P w H h) (e : h.get? a = Option.none) : H a = Option.none := by
  cases q : H a with
  | none => rfl
  | some u =>
    obtain ⟨v, z⟩ := (x a u q).there
    rw [e] at z; cases z
theorem HOk.part (x : HOk P w H h) (k : ∀ b o, H b ≠ Option.none → h.get? b = some o → h'.get? b = some o) : HOk P w H h' := fun b u e => by
  refine (x b u e).stay (fun c v hc q => k c v ?_ q) (fun _ q => q) fun _ _ q => q
  intro z
  rcases hc with rfl | hc
  · rw [z] at e; cases e
  · rw [z] at hc; cases hc
end

/-- an exception of class cls at e, its trace at T -/
noncomputable def Tr (h : Heap) (e T : Addr) (cls : Value) : Prop := ∃ oe vs oT ts a0, h.get? e = some oe ∧ oe.cls = cls ∧ vs[0]? = some a0 ∧ oe.data = .fields vs ∧ vs[1]? = some (.ref T) ∧ T ≠ e ∧ h.get? T = some oT ∧ oT.data = .fields ts ∧ ts[3]? = some Value.none
theorem rebase {h base base' : Heap} : ∀ {l : List Env}, h.FunFrames base l → (∀ b ∈ frs l, base'.get? b = none) → h.FunFrames base' l
  | [], _, _ => trivial
  | env :: r, ⟨hk, ⟨L, o, hf, _, ho, hd⟩, hr⟩, hb => by
    have hL : L ∈ frs (env :: r) := by unfold frs; rw [List.filterMap_cons, hf]; exact List.mem_cons_self
    refine ⟨hk, ⟨L, o, hf, hb L hL, ho, hd⟩, rebase hr fun b z => hb b ?_⟩
    unfold frs at z ⊢
    rw [List.filterMap_cons, hf]
    exact List.mem_cons_of_mem _ z
/-- what an exception that goes by leaves as it was -/
structure Kept (l : List Env) (ch : List Addr) (h h' : Heap) : Prop where
  keep : ∀ b o, b ∉ frs l → b ∉ ch → h.get? b = some o → h'.get? b = some o
  slot : ∀ b o, b ∈ frs l → h.get? b = some o → ∃ sl, h'.get? b = some { o with slots := sl }
section
variable {M : Model} {A : Around} {E : Value → Shared → Prop} {s : Shared} {Q : Unit → Shared → Prop} {base : Heap} {env : Env} {outer l : List Env} {L e T : Addr} {cls : Value}
theorem notf (hl : s.heap.FunFrames base l) {b : Addr} {o : Obj} (hb : b ∈ frs l) (q : s.heap.get? b = some o) : ∀ vs, o.data ≠ .fields vs := by
  obtain ⟨_, o', ho, hd⟩ := hl.mem hb
  rw [q] at ho; cases ho; exact hd
/-- the trace behind: where it may lie -/
theorem trace_new {h h' : Heap} {ch : List Addr} (hl : h.FunFrames base l) {T' : Addr} {oT : Obj} {ts : Array Value} (hn : (PySem.W.hideAll h (frs l ++ ch)).get? T' = none) (hT : h'.get? T' = some oT) (hd : oT.data = .fields ts)
    (up : ∀ b o, h.get? b = some o → (∀ vs, o.data ≠ .fields vs) → ∃ sl, h'.get? b = some { o with slots := sl }) : T' ∈ ch ∨ h.get? T' = none := by
  cases q : h.get? T' with
  | none => exact .inr rfl
  | some o =>
    refine .inl ?_
    by_cases hm : T' ∈ frs l ++ ch
    · rcases List.mem_append.mp hm with z | z
      · obtain ⟨_, o', ho, hdo⟩ := hl.mem z
        obtain ⟨sl, e⟩ := up _ _ ho hdo
        rw [hT] at e; cases e
        exact absurd hd (hdo ts)
      · exact z
    · rw [PySem.W.hideAll_get _ q hm] at hn; cases hn
theorem leave_tr (hfr : A.frames = some (env :: outer)) (hl : s.heap.FunFrames base (env :: outer)) (hf : env.frame = some L) (tr : Tr s.heap e T cls)
    (hQ : ∀ h' T', Tr h' e T' cls → (T' = T ∨ s.heap.get? T' = none) → Kept (env :: outer) [e, T] s.heap h' → Q () { s with heap := h' }) : wpAny M A (leaving env (.ref e)) Q E s := by
  obtain ⟨oe, vs, oT, ts, a0, he, hc, h0, hd, h1, hTe, hT, hdT, h3⟩ := tr
  have hid : ∀ b, b ∈ frs (env :: outer) ++ [e, T] → (PySem.W.hideAll s.heap (frs (env :: outer) ++ [e, T])).get? b = none := fun b hb => PySem.W.hideAll_none _ hb
  refine wpAny_leaving_nextW (base := PySem.W.hideAll s.heap (frs (env :: outer) ++ [e, T])) (a0 := a0) (cls := cls) hfr (rebase hl fun b hb => hid b (List.mem_append_left _ hb)) hf
    ⟨oe, vs, T, oT, ts, he, ⟨hc, h0⟩, hd, h1, hid T (by simp), hTe, hT, hdT, h3⟩ (fun b o q => PySem.W.of_hideAll _ q) (hid e (by simp)) fun h' hL => ?_
  obtain ⟨k1, k2, ⟨oe', vs', T', oT', ts', he', ⟨hc', h0'⟩, hd', h1', hn', hTe', hT', hdT', h3'⟩, k4⟩ := hL
  refine hQ h' T' ⟨oe', vs', oT', ts', a0, he', hc', h0', hd', h1', hTe', hT', hdT', h3'⟩ ?_ ⟨fun b o hb hch q => k1 b o (PySem.W.hideAll_get _ q fun z => ?_), fun b o hb q => k4 b o q (notf hl hb q)⟩
  · rcases trace_new hl hn' hT' hdT' k4 with z | z
    · rcases List.mem_cons.mp z with z | z
      · exact absurd z hTe'
      · exact .inl (by simpa using z)
    · exact .inr z
  · rcases List.mem_append.mp z with z | z
    · exact hb z
    · exact hch z
theorem leave_new1 {oe : Obj} {vs : Array Value} {a0 : Value} (hfr : A.frames = some (env :: outer)) (hl : s.heap.FunFrames base (env :: outer)) (hf : env.frame = some L) (he : s.heap.get? e = some oe) (hc : oe.cls = cls) (hd : oe.data = .fields vs) (h0 : vs[0]? = some a0) (h1 : vs[1]? = some .none)
    (hQ : ∀ h' T', Tr h' e T' cls → s.heap.get? T' = none → Kept (env :: outer) [e] s.heap h' → Q () { s with heap := h' }) : wpAny M A (leaving env (.ref e)) Q E s := by
  have hid : ∀ b, b ∈ frs (env :: outer) ++ [e] → (PySem.W.hideAll s.heap (frs (env :: outer) ++ [e])).get? b = none := fun b hb => PySem.W.hideAll_none _ hb
  refine wpAny_leaving_firstW (base := PySem.W.hideAll s.heap (frs (env :: outer) ++ [e])) (a0 := a0) hfr (rebase hl fun b hb => hid b (List.mem_append_left _ hb)) hf he (fun b o q => PySem.W.of_hideAll _ q) (hid e (by simp)) hd h1 h0 fun h' hL => ?_
  obtain ⟨k1, k2, ⟨oe', vs', T', oT', ts', he', ⟨hc', h0'⟩, hd', h1', hn', hTe', hT', hdT', h3'⟩, k4⟩ := hL
  refine hQ h' T' ⟨oe', vs', oT', ts', a0, he', hc'.trans hc, h0', hd', h1', hTe', hT', hdT', h3'⟩ ?_ ⟨fun b o hb hch q => k1 b o (PySem.W.hideAll_get _ q fun z => ?_), fun b o hb q => k4 b o q (notf hl hb q)⟩
  · rcases trace_new hl hn' hT' hdT' k4 with z | z
    · exact absurd (by simpa using z) hTe'
    · exact z
  · rcases List.mem_append.mp z with z | z
    · exact hb z
    · exact hch z
/-- a try looks at it: noted, then laid down -/
theorem look_tr (hfr : A.frames = some (env :: outer)) (hl : s.heap.FunFrames base (env :: outer)) (hf : env.frame = some L) (tr : Tr s.heap e T cls)
    (hQ : ∀ h' T', Tr h' e T' cls → (T' = T ∨ s.heap.get? T' = none) → Kept (env :: outer) [e, T] s.heap h' → Q () { s with heap := h' }) :
    wpAny M A (noteFrame (.ref e) env) (fun _ s2 => wpAny M A (setFlight (.ref e) none) Q E s2) E s := by
  obtain ⟨oe, vs, oT, ts, a0, he, hc, h0, hd, h1, hTe, hT, hdT, h3⟩ := tr
  have hid : ∀ b, b ∈ frs (env :: outer) ++ [e, T] → (PySem.W.hideAll s.heap (frs (env :: outer) ++ [e, T])).get? b = none := fun b hb => PySem.W.hideAll_none _ hb
  refine wpAny_looks_onW (base := PySem.W.hideAll s.heap (frs (env :: outer) ++ [e, T])) (a0 := a0) (cls := cls) hfr hf
    ⟨fun b o q => PySem.W.of_hideAll _ q, hid e (by simp), rebase hl fun b hb => hid b (List.mem_append_left _ hb), oe, vs, T, oT, ts, he, ⟨hc, h0⟩, hd, h1, hid T (by simp), hTe, hT, hdT, h3⟩ fun h1' held up1 => ?_
  refine wpAny_landsW held fun h' fl up2 => ?_
  have up := Heap.UpToSlots.trans up1 up2
  obtain ⟨k1, _, k2, oe', vs', T', oT', ts', he', ⟨hc', h0'⟩, hd', h1', hn', hTe', hT', hdT', h3'⟩ := fl
  refine hQ h' T' ⟨oe', vs', oT', ts', a0, he', hc', h0', hd', h1', hTe', hT', hdT', h3'⟩ ?_ ⟨fun b o hb hch q => k1 b o (PySem.W.hideAll_get _ q fun z => ?_), fun b o hb q => up b o q (notf hl hb q)⟩
  · rcases trace_new hl hn' hT' hdT' up with z | z
    · rcases List.mem_cons.mp z with z | z
      · exact absurd z hTe'
      · exact .inl (by simpa using z)
    · exact .inr z
  · rcases List.mem_append.mp z with z | z
    · exact hb z
    · exact hch z
/-- laid down once more -/
theorem again_tr (hl : s.heap.FunFrames base l) (tr : Tr s.heap e T cls)
    (hQ : ∀ h' T', Tr h' e T' cls → (T' = T ∨ s.heap.get? T' = none) → Kept l [e, T] s.heap h' → Q () { s with heap := h' }) : wpAny M A (setFlight (.ref e) none) Q E s := by
  obtain ⟨oe, vs, oT, ts, a0, he, hc, h0, hd, h1, hTe, hT, hdT, h3⟩ := tr
  have hid : ∀ b, b ∈ frs l ++ [e, T] → (PySem.W.hideAll s.heap (frs l ++ [e, T])).get? b = none := fun b hb => PySem.W.hideAll_none _ hb
  refine lands_againW (base := PySem.W.hideAll s.heap (frs l ++ [e, T])) (l := l) (a0 := a0) (cls := cls)
    ⟨fun b o q => PySem.W.of_hideAll _ q, hid e (by simp), rebase hl fun b hb => hid b (List.mem_append_left _ hb), oe, vs, T, oT, ts, he, ⟨hc, h0⟩, hd, h1, hid T (by simp), hTe, hT, hdT, h3⟩ fun h' fl up => ?_
  obtain ⟨k1, _, k2, oe', vs', T', oT', ts', he', ⟨hc', h0'⟩, hd', h1', hn', hTe', hT', hdT', h3'⟩ := fl
  refine hQ h' T' ⟨oe', vs', oT', ts', a0, he', hc', h0', hd', h1', hTe', hT', hdT', h3'⟩ ?_ ⟨fun b o hb hch q => k1 b o (PySem.W.hideAll_get _ q fun z => ?_), fun b o hb q => up b o q (notf hl hb q)⟩
  · rcases trace_new hl hn' hT' hdT' up with z | z
    · rcases List.mem_cons.mp z with z | z
      · exact absurd z hTe'
      · exact .inl (by simpa using z)
    · exact .inr z
  · rcases List.mem_append.mp z with z | z
    · exact hb z
    · exact hch z
end

/-! ### the state while an exception goes by -/
section
variable {X : Cx} {pins : List (Addr × Obj)} {σ : St} {H : Hp} {s : Shared} {h' : Heap} {ch : List Addr}
/-- what may change is ours: not of the entry, no pin, no cell, not tracked -/
structure Ours (X : Cx) (pins : List (Addr × Obj)) (H : Hp) (b : Addr) : Prop where
  new : X.s₀.heap.get? b = none
  free : H b = none
  loc : b ≠ X.env.locals
  cell : ∀ x c, X.env.cells.lookup x = some c → c ≠ b
  pin : ∀ p ∈ X.pn ++ pins, p.1 ≠ b
theorem Inv.ours (I : Inv X pins σ H s) (hx : X.ex = []) {b : Addr} (n : s.heap.get? b = none) : X.s₀.heap.get? b = none ∧ b ≠ X.env.locals ∧ (∀ x c, X.env.cells.lookup x = some c → c ≠ b) ∧ ∀ p ∈ X.pn ++ pins, p.1 ≠ b := by
  refine ⟨?_, ?_, fun x c e z => ?_, fun p hp z => ?_⟩
  · cases q : X.s₀.heap.get? b with
    | none => rfl
    | some o =>
      obtain ⟨o', e⟩ := I.base.there b o q (by rw [hx]; simp)
      rw [n] at e; cases e
  · rintro rfl
    obtain ⟨m, ⟨o, _, _, e, _⟩, _⟩ := I.loc
    rw [n] at e; cases e
  · subst z
    obtain ⟨v, o, e', _⟩ := I.cell x c e
    rw [n] at e'; cases e'
  · have := (I.pin p hp).1
    rw [z, n] at this; cases this
theorem Inv.exc (I : Inv X pins σ H s) (hx : X.ex = []) (ours : ∀ b ∈ ch, Ours X pins H b) (k : Kept X.stack ch s.heap h') : Inv X pins σ H { s with heap := h' } := by
  have sub := I.stkSub
  have above := I.ok.above
  have outs : ∀ b ∈ X.fs, b ∈ frs X.stack := fun b hb => by
    rcases I.ok.stk with e | ⟨e, hf⟩
    · rw [e]; exact hb
    · rw [e]
      show b ∈ frs (X.env :: X.outer)
      unfold frs
      rw [List.filterMap_cons, hf]
      exact List.mem_cons_of_mem _ hb
  have anyk : ∀ b o, b ∉ ch → s.heap.get? b = some o → ∃ sl, h'.get? b = some { o with slots := sl } := fun b o hc q => by
    by_cases hb : b ∈ frs X.stack
    · exact k.slot b o hb q
    · exact ⟨o.slots, k.keep b o hb hc q⟩
  have nch : ∀ b o, X.s₀.heap.get? b = some o → b ∉ ch := fun b o q z => by rw [(ours b z).new] at q; cases q
  have lch : X.env.locals ∉ ch := fun z => (ours _ z).loc rfl
  have cch : ∀ x c, X.env.cells.lookup x = some c → c ∉ ch := fun x c e z => (ours _ z).cell x c e rfl
  have cellK : ∀ x c v, X.env.cells.lookup x = some c → s.heap.IsCell c v → h'.IsCell c v := fun x c v e z => by
    obtain ⟨o, ho, hd⟩ := z
    obtain ⟨sl, q⟩ := anyk c o (cch x c e) ho
    exact ⟨_, q, hd⟩
  refine ⟨I.ok, I.os, I.bare, ⟨fun b o e n hb hxx => ?_, fun b o e n hb hxx => ?_, I.base.free, fun b o e hxx => ?_, I.base.tups, I.base.frzs, I.base.tbls⟩, ?_, fun x c e => ?_, I.free, I.freeC, fun p hp => ?_, ?_, I.len⟩
  · refine k.keep b o (fun z => ?_) (nch b o e) (I.base.keep b o e n hb hxx)
    rcases List.mem_cons.mp (sub b z) with z | z
    · exact absurd (Nat.lt_of_lt_of_le (Heap.lt_size e) above) (by rw [z]; exact Nat.lt_irrefl _)
    · exact hb z
  · obtain ⟨sl, e1⟩ := I.base.slot b o e n hb hxx
    obtain ⟨sl', e2⟩ := k.slot b _ (outs b hb) e1
    exact ⟨sl', e2⟩
  · obtain ⟨o', e1⟩ := I.base.there b o e hxx
    obtain ⟨sl, e2⟩ := anyk b o' (nch b o e) e1
    exact ⟨_, e2⟩
  · obtain ⟨m, ⟨o, es, ep, ho, r⟩, hl⟩ := I.loc
    obtain ⟨sl, q⟩ := anyk _ o lch ho
    refine ⟨m, ⟨_, es, ep, q, r⟩, fun i x v e1 e2 e3 => ?_⟩
    obtain ⟨u, ru, lk⟩ := hl i x v e1 e2 e3
    refine ⟨u, ru, ?_⟩
    rcases lk with z | ⟨z, c, e, ic⟩
    · exact .inl z
    · exact .inr ⟨z, c, e, cellK x c _ e ic⟩
  · obtain ⟨v, z⟩ := I.cell x c e
    exact ⟨v, cellK x c v e z⟩
  · obtain ⟨e, n, ne, nf, d⟩ := I.pin p hp
    refine ⟨k.keep p.1 p.2 (fun z => ?_) (fun z => (ours _ z).pin p hp rfl) e, n, ne, nf, d⟩
    rcases List.mem_cons.mp (sub _ z) with z | z
    · exact ne z
    · exact nf z
  · refine I.hok.part fun b o hb q => k.keep b o (fun z => hb (I.stkFree b z)) (fun z => hb (ours b z).free) q
/-- an object that is ours is tracked from now on -/
theorem Inv.track {e : Addr} {φ : Heap → Prop} (I : Inv X pins σ H s) (o : Ours X pins H e) (new : ObjOk X.prog X.w (upd H e (.ext φ)) s.heap e (.ext φ)) : Inv X pins σ (upd H e (.ext φ)) s := by
  have ne : ∀ b u, H b = some u → b ≠ e := fun b u q z => by rw [z, o.free] at q; cases q
  refine ⟨I.ok, I.os, I.bare, ⟨I.base.keep, I.base.slot, fun b ob q n hx => ?_, I.base.there, fun b xs q => ?_, fun b ob u q => ?_, fun b ps q => ?_⟩, I.loc, I.cell, ?_, fun x c q => ?_, fun p hp => ?_, fun b u q => ?_, I.len⟩
  · rw [upd_ne (fun z => by rw [z, o.new] at q; cases q)]; exact I.base.free b ob q n hx
  · have := I.base.tups b xs q
    rw [upd_ne (ne _ _ this)]; exact this
  · have := I.base.frzs b ob u q
    rw [upd_ne (ne _ _ this)]; exact this
  · obtain ⟨m, z⟩ := I.base.tbls b ps q
    exact ⟨m, by rw [upd_ne (ne _ _ z)]; exact z⟩
  · rw [upd_ne (Ne.symm o.loc)]; exact I.free
  · rw [upd_ne (o.cell x c q)]; exact I.freeC x c q
  · obtain ⟨z, n, r⟩ := I.pin p hp
    exact ⟨z, by rw [upd_ne (o.pin p hp)]; exact n, r⟩
  · by_cases z : b = e
    · subst z; rw [upd_same] at q; cases q; exact new
    · rw [upd_ne z] at q
      exact (I.hok b u q).stay (fun _ _ _ x => x) (fun c x => by rw [upd_ne (ne _ _ x)]; exact x) fun c xs x => by rw [upd_ne (ne _ _ x)]; exact x
end

/-! ### how an exception lies behind a call -/
noncomputable def CX1 (P : Program) (w : World) : CXT := fun outer H s E e s' => ∃ (ea T : Addr) (cls : Value) (H' : Hp), e = .ref ea ∧ s.heap.get? ea = none ∧ s.heap.get? T = none ∧ H' ea = none ∧ H' T = none ∧ Tr s'.heap ea T cls ∧
  s'.os = s.os ∧ AllBare s'.gens ∧ Un (frs outer) [] H H' s.heap s'.heap ∧ HOk P w H' s'.heap ∧ E cls none H'
theorem passN {P : Program} {w : World} {X : Cx} : Passes (CX1 P w) X E0 := fun _ _ _ _ _ _ _ ⟨_, _, _, _, _, _, _, _, _, _, _, _, _, _, q⟩ => q.elim
/-- a context in which an exception that E lets by may rise -/
structure Thr (X : Cx) (E : XK) : Prop where
  made : ∀ {pins : List (Addr × Obj)} {σ : St} {H : Hp} {s : Shared} {e : Addr} {cls : Value} {vs : List Value} {h' : Heap}, Inv X pins σ H s → Heap.MadeExcOf s.heap h' e cls vs → E cls none H → X.xe (.ref e) { s with heap := h' }
  pass : Passes (CX1 X.prog X.w) X E
section
variable {P : Program} {w : World} {K : PySem.W.Frag} {mg : Str → Option Value} {base : Heap} {N : List Str} {qual : Str} {scope : Scope} {f : Addr} {cd : Value} {A : Around} {outer : List Env} {s : Shared} {H : Hp} {E : XK}
/-- a def's body: an exception leaves its frame -/
theorem lies_def {pins : List (Addr × Obj)} {σ : St} {H2 : Hp} {s2 : Shared} {ea T : Addr} {cls : Value} (I : Inv (cxOf (CX1 P w) P w K mg base N qual scope f cd A outer s H E) pins σ H2 s2) (tr : Tr s2.heap ea T cls)
    (n1 : s.heap.get? ea = none) (n2 : s.heap.get? T = none) (f1 : H2 ea = none) (f2 : H2 T = none) (q : E cls none H2) : (cxOf (CX1 P w) P w K mg base N qual scope f cd A outer s H E).xe (.ref ea) s2 := by
  have fr : (A.deeper (envOfC qual scope s.heap.objs.size f cd)).frames = some (envOfC qual scope s.heap.objs.size f cd :: outer) := I.ok.frames
  have above : s.heap.objs.size ≤ (envOfC qual scope s.heap.objs.size f cd).locals := I.ok.above
  have nex : ∀ b : Addr, b ∉ (cxOf (CX1 P w) P w K mg base N qual scope f cd A outer s H E).ex := fun b z => absurd (show b ∈ ([] : List Addr) from z) (by simp)
  have sub : ∀ b ∈ frs (envOfC qual scope s.heap.objs.size f cd :: outer), b = (envOfC qual scope s.heap.objs.size f cd).locals ∨ b ∈ frs outer := fun b hb => List.mem_cons.mp (I.stkSub b hb)
  have out : ∀ b ∈ frs outer, b ∈ frs (envOfC qual scope s.heap.objs.size f cd :: outer) := fun b hb => by
    unfold frs at hb ⊢
    rw [List.filterMap_cons]
    split
    · exact hb
    · exact List.mem_cons_of_mem _ hb
  refine leave_tr fr I.stack rfl tr fun h' T' tr' hT' k => ?_
  have anyk : ∀ b o, b ≠ ea → b ≠ T → s2.heap.get? b = some o → ∃ sl, h'.get? b = some { o with slots := sl } := fun b o h1 h2 z => by
    by_cases hb : b ∈ frs (envOfC qual scope s.heap.objs.size f cd :: outer)
    · exact k.slot b o hb z
    · exact ⟨o.slots, k.keep b o hb (by simp [h1, h2]) z⟩
  have ne : ∀ b o, s.heap.get? b = some o → b ≠ ea ∧ b ≠ T := fun b o z => ⟨fun y => (by rw [y, n1] at z; cases z), fun y => (by rw [y, n2] at z; cases z)⟩
  refine ⟨ea, T', cls, H2, rfl, n1, ?_, f1, ?_, tr', I.os, I.bare, ⟨fun b o z n hb hx => ?_, fun b o z n hb hx => ?_, fun b o z n hx => I.base.free b o z n (nex b), fun b o z hx => ?_, I.base.tups, I.base.frzs, I.base.tbls⟩, ?_, q⟩
  · rcases hT' with z | z
    · rw [z]; exact n2
    · cases y : s.heap.get? T' with
      | none => rfl
      | some o =>
        obtain ⟨o', e'⟩ := I.base.there T' o y (nex _)
        rw [z] at e'; cases e'
  · rcases hT' with z | z
    · rw [z]; exact f2
    · exact I.hok.none z
  · refine k.keep b o (fun y => ?_) (by have := ne b o z; simp [this.1, this.2]) (I.base.keep b o z n hb (nex b))
    rcases sub b y with y | y
    · exact absurd (Nat.lt_of_lt_of_le (Heap.lt_size z) above) (by rw [y]; exact Nat.lt_irrefl _)
    · exact hb y
  · obtain ⟨sl, e1⟩ := I.base.slot b o z n hb (nex b)
    obtain ⟨sl', e2⟩ := k.slot b _ (out b hb) e1
    exact ⟨sl', e2⟩
  · obtain ⟨o', e1⟩ := I.base.there b o z (nex b)
    obtain ⟨sl, e2⟩ := anyk b o' (ne b o z).1 (ne b o z).2 e1
    exact ⟨_, e2⟩
  · refine I.hok.part fun b o hb z => k.keep b o (fun y => hb (I.stkFree b y)) (fun y => ?_) z
    rcases List.mem_cons.mp y with y | y
    · exact hb (by rw [y]; exact f1)
    · exact hb (by rw [show b = T by simpa using y]; exact f2)
theorem thr_def : Thr (cxOf (CX1 P w) P w K mg base N qual scope f cd A outer s H E) E where
  made := fun {pins σ H1 s1 e cls vs h'} I m q => by
    obtain ⟨t, he, htn, ht⟩ := m.there
    have I2 : Inv (cxOf (CX1 P w) P w K mg base N qual scope f cd A outer s H E) pins σ H1 { s1 with heap := h' } := I.kept (t' := s1.toks) m.keeps
    have fr : (A.deeper (envOfC qual scope s.heap.objs.size f cd)).frames = some (envOfC qual scope s.heap.objs.size f cd :: outer) := I.ok.frames
    have above : s.heap.objs.size ≤ (envOfC qual scope s.heap.objs.size f cd).locals := I.ok.above
    have nex : ∀ b : Addr, b ∉ (cxOf (CX1 P w) P w K mg base N qual scope f cd A outer s H E).ex := fun b z => absurd (show b ∈ ([] : List Addr) from z) (by simp)
    have sub : ∀ b ∈ frs (envOfC qual scope s.heap.objs.size f cd :: outer), b = (envOfC qual scope s.heap.objs.size f cd).locals ∨ b ∈ frs outer := fun b hb => List.mem_cons.mp (I.stkSub b hb)
    have out : ∀ b ∈ frs outer, b ∈ frs (envOfC qual scope s.heap.objs.size f cd :: outer) := fun b hb => by
      unfold frs at hb ⊢
      rw [List.filterMap_cons]
      split
      · exact hb
      · exact List.mem_cons_of_mem _ hb
    have n1 : s.heap.get? e = none := (I.ours rfl m.new).1
    refine leave_new1 (cls := cls) fr I2.stack rfl he rfl rfl rfl rfl fun h2 T' tr' hT' k => ?_
    have anyk : ∀ b o, b ≠ e → h'.get? b = some o → ∃ sl, h2.get? b = some { o with slots := sl } := fun b o h1 z => by
      by_cases hb : b ∈ frs (envOfC qual scope s.heap.objs.size f cd :: outer)
      · exact k.slot b o hb z
      · exact ⟨o.slots, k.keep b o hb (by simp [h1]) z⟩
    have ne : ∀ b o, s.heap.get? b = some o → b ≠ e := fun b o z y => by rw [y, n1] at z; cases z
    refine ⟨e, T', cls, H1, rfl, n1, (I2.ours rfl hT').1, I.hok.none m.new, I2.hok.none hT', tr', I.os, I.bare, ⟨fun b o z n hb hx => ?_, fun b o z n hb hx => ?_, fun b o z n hx => I.base.free b o z n (nex b), fun b o z hx => ?_, I.base.tups, I.base.frzs, I.base.tbls⟩, ?_, q⟩
    · refine k.keep b o (fun y => ?_) (by simp [ne b o z]) (I2.base.keep b o z n hb (nex b))
      rcases sub b y with y | y
      · exact absurd (Nat.lt_of_lt_of_le (Heap.lt_size z) above) (by rw [y]; exact Nat.lt_irrefl _)
      · exact hb y
    · obtain ⟨sl, e1⟩ := I2.base.slot b o z n hb (nex b)
      obtain ⟨sl', e2⟩ := k.slot b _ (out b hb) e1
      exact ⟨sl', e2⟩
    · obtain ⟨o', e1⟩ := I2.base.there b o z (nex b)
      obtain ⟨sl, e2⟩ := anyk b o' (ne b o z) e1
      exact ⟨_, e2⟩
    · refine I2.hok.part fun b o hb z => k.keep b o (fun y => hb (I.stkFree b y)) (fun y => ?_) z
      exact hb (by rw [show b = e by simpa using y]; exact I.hok.none m.new)
  pass := fun pins σ H1 s1 e s2 I hcx => by
    obtain ⟨ea, T, cls, H2, rfl, n1, n2, f1, f2, tr, os, bare, un, hok, q⟩ := hcx
    have I2 := I.call' os un hok bare fun b z => absurd z (by simp)
    exact lies_def I2 tr (I.ours rfl n1).1 (I.ours rfl n2).1 f1 f2 q
end
section
variable {P : Program} {w : World} {K : PySem.W.Frag} {mg : Str → Option Value} {base : Heap}
/-- a def that raises nothing, where exceptions may lie -/
theorem FnOk.up {CX : CXT} {k : Nat} {f : Addr} {fd : FuncData} {ps : List Str} {sp : Sp} (F : FnOk P w K mg base CX0 k f fd ps sp) : FnOk P w K mg base CX k f fd ps sp :=
  ⟨F.len, fun A outer s H args us vs Q E hr he hb hv hs => codeAny_mono (F.run A outer s H args us vs Q E hr he hb hv hs) fun r s' q => by
    cases r with
    | error e => exact False.elim q
    | ok fl => cases fl <;> exact q⟩
/-- a def that may raise -/
theorem Fun.okE {x qual : Str} {st : Stmt} {f : Addr} {fd : FuncData} {N ps : List Str} {k : Nat} {sp : Sp} (F : Fun K x qual st f fd) (S : FnScope N ps (defScope st)) (len : ∀ vs H Q E, sp vs H Q E → vs.length = ps.length)
    (hbody : ∀ (cdv : Value) (A : Around) (outer : List Env) (s : Shared) (H : Hp) (vs : List V) (Q : VK) (E : XK), Room k (A.deeper (envOfC qual (defScope st) s.heap.objs.size f cdv)) → sp vs H Q E →
      ∃ t, PSs (cxOf (CX1 P w) P w K mg base N qual (defScope st) f cdv A outer s H E) (defBody st) t ∧ t { nx := fun _ H' => Q .non H', rt := Q } (start N vs) H) : FnOk P w K mg base (CX1 P w) (k + 1) f fd ps sp := by
  obtain ⟨oc, od, kV, doc, pm, an, cdv, ct, osl, rfl, lk, hcd⟩ := F.ex
  exact fn_of lk hcd S len fun A outer s H vs Q E hr hsp => hbody cdv A outer s H vs Q E hr hsp
end

/-! ### raise C(..), C an own class under ValueError without an __init__ of its own -/
noncomputable abbrev veB : List Value := [.type "ValueError", .type "Exception", .type "BaseException", .type "object"]
noncomputable abbrev excI (K : PySem.W.Frag) (C : Addr) : Prop := PySem.W.excIn K C veB "ValueError.__new__" = true
theorem excObj {K : PySem.W.Frag} {h : Heap} {C : Addr} (X : K.In h) (q : excI K C) : ∃ bm N nm qn bs hd sn sub ab col dd k0 k1 k2 k3 k5 mN,
    h.get? C = some (excClassObj nm qn C N bs bm hd sn sub ab col dd k0 k1 k2 k3 k5 "ValueError.__new__") ∧ h.Ns N mN ∧ mN "__init__" = none ∧ OwnTail h veB bm := by
  unfold excI PySem.W.excIn at q
  split at q
  · rename_i dd cd sl ho
    split at q
    · rename_i C' bm k0 k1 k2 k3 n k5 hm hs
      obtain ⟨q5, q6⟩ := Bool.and_eq_true_iff.mp q
      obtain ⟨q4, hok⟩ := Bool.and_eq_true_iff.mp q5
      obtain ⟨q3, ht⟩ := Bool.and_eq_true_iff.mp q4
      obtain ⟨q2, hdel⟩ := Bool.and_eq_true_iff.mp q3
      obtain ⟨e1, e2⟩ := Bool.and_eq_true_iff.mp q2
      have e1 := beq_iff_eq.mp e1
      have e2 := beq_iff_eq.mp e2
      have hni := beq_iff_eq.mp q6
      subst e1 e2
      obtain ⟨nm, bs, mro, ns, qn, hd, sn, sub, ab, col, del⟩ := cd
      have hsl : sl = #[k0, k1, k2, k3, some (.builtin "ValueError.__new__"), k5] := by
        rw [← hs]
      have hdel' : del = false := by simpa using hdel
      have hm' : mro = .ref C' :: bm := hm
      subst hm' hdel' hsl
      exact ⟨bm, ns, nm, qn, bs, hd, sn, sub, ab, col, dd, k0, k1, k2, k3, k5, _, X _ _ ho, .of_isNs (PySem.W.isNs_of_in X hok), PySem.W.nsMap_none_of_in X hok hni, PySem.W.tail_of_in X ht⟩
    · cases q
  · cases q
noncomputable def tRaise (E : XK) (C : Addr) (t : TA) : TS := fun _ σ H => t σ H fun vs H1 => vs.length ≤ sizeLine ∧ E (.ref C) none H1
theorem ps_raise {X : Cx} {E : XK} {C : Addr} {x : Str} {np cpos pos : Pos} {a : Expr} {ta : TA} (T : Thr X E) (O : excI X.K C) (hg : Gl X x) (hm : X.mg x = some (.ref C)) (ha : PA X [a] ta) (hc : X.calm = true := by rfl)
    (hs : starEach [a] X.env = [(false, eval a X.env)] := by rfl) (hd : (x == ("__debug__" : Str)) = false := by decide) : PS X (.Raise (some (.Call (.Name x np) [a] [] cpos)) none pos) (tRaise E C ta) := by
  intro pins s σ H D I h
  obtain ⟨bm, N, nm, qn, bs, hd', sn, sub, ab, col, dd, k0, k1, k2, k3, k5, mN, hC, hN, hni, TL⟩ := excObj I.ok.mod.kin O
  refine wpAny_Raise_call_subT (C := C) (nm := nm) (q := qn) (N := N) (bs := bs) (bm := bm) (hdct := hd') (sn := sn) (sub := sub) (ab := ab) (col := col) (dd := dd) (k0 := k0) (k1 := k1) (k2 := k2) (k3 := k3) (k5 := k5)
    PySem.F.excBase_ValueError (mN := mN) (TL.hasType PySem.F.excBase_ValueError.hasBase) (I.ok.hd hc) (by rw [hs]; rfl) hni (ld_glob I hg hm ⟨rfl, ?_⟩ hd)
  have p := ha cpos pins s σ H _ I h
  rw [hs] at p ⊢
  exact Calls.evalArgs_plain (thn p fun us s1 ⟨vs, H1, I1, r, q⟩ => ⟨rfl, by rw [← r.length]; exact q.1, I1.bk _ _ hC, hN.keeps I1.bk, TL.keeps I1.bk, fun h' e m => T.made I1 m q.2⟩)

/-! ### try: f(..), except C as n: .. -/
/-- within an except suite -/
noncomputable def Cx.inExc (X : Cx) (e : Addr) : Cx := { X with A := X.A.mark (some (.ref e)), calm := false, xe := fun _ _ => False }
section
variable {X : Cx} {pins : List (Addr × Obj)} {σ : St} {H : Hp} {s : Shared} {e : Addr}
theorem Inv.inExc (I : Inv X pins σ H s) (e : Addr) : Inv (X.inExc e) pins σ H s :=
  ⟨⟨I.ok.mod, I.ok.kind, I.ok.glob, I.ok.blt, I.ok.above, I.ok.inj, I.ok.has, I.ok.cab, fun z => (by cases z), I.ok.frames, I.ok.stk, I.ok.exf, I.ok.bs, I.ok.bsz, I.ok.noex, I.ok.exfs, I.ok.funs, I.ok.frf⟩, I.os, I.bare, I.base, I.loc, I.cell, I.free, I.freeC, I.pin, I.hok, I.len⟩
theorem Inv.outExc (ok : X.Ok) (I : Inv (X.inExc e) pins σ H s) : Inv X pins σ H s := ⟨ok, I.os, I.bare, I.base, I.loc, I.cell, I.free, I.freeC, I.pin, I.hok, I.len⟩
/-- a name is taken away -/
theorem Inv.unbind {i : Nat} {n : Str} {m : Str → Option Value} {v : Option Value} {h' : Heap} {t' : Nat} (I : Inv X pins σ H s) (hN : X.N.Nodup) (hi : X.N[i]? = some n)
    (hl : ∀ (i : Nat) (x : Str) (v : V), X.N[i]? = some x → σ[i]? = some (some v) → Vis X.env.scope x → ∃ u, RelV v u ∧ Look X.env s.heap m x u)
    (hn' : h'.Ns X.env.locals (fun x => if x = n then v else m x)) (hs : Heap.SameBut X.env.locals s.heap h') : Inv X pins (σ.set i none) H { s with heap := h', toks := t' } := by
  have lo : ∀ b o, X.s₀.heap.get? b = some o → b ≠ X.env.locals := fun b o e z => by
    exact absurd (Nat.lt_of_lt_of_le (Heap.lt_size e) I.ok.above) (by rw [z]; exact Nat.lt_irrefl _)
  have cne := I.cne
  refine ⟨I.ok, I.os, I.bare, ⟨fun b o e n hb hx => (hs.2 b (lo b o e)).trans (I.base.keep b o e n hb hx), fun b o e n hb hx => ?_, I.base.free, fun b o e hx => ?_, I.base.tups, I.base.frzs, I.base.tbls⟩,
    ⟨_, hn', fun j y v' e1 e2 e3 => ?_⟩, fun y c e => ?_, I.free, I.freeC, fun p hp => ?_, I.hok.part fun b o hb q => (hs.2 b fun z => hb (by rw [z]; exact I.free)).trans q, by simpa using I.len⟩
  · obtain ⟨sl, e1⟩ := I.base.slot b o e n hb hx
    exact ⟨sl, (hs.2 b (lo b o e)).trans e1⟩
  · obtain ⟨o', e1⟩ := I.base.there b o e hx
    exact ⟨o', (hs.2 b (lo b o e)).trans e1⟩
  · by_cases hj : j = i
    · subst hj
      by_cases hlt : j < σ.length
      · rw [List.getElem?_set_self hlt] at e2; cases e2
      · rw [List.getElem?_eq_none (by simpa using hlt)] at e2; cases e2
    · rw [List.getElem?_set_ne (Ne.symm hj)] at e2
      obtain ⟨u, r, q⟩ := hl j y v' e1 e2 e3
      have yn : y ≠ n := fun e => hj (nodup_ix hN e1 (e ▸ hi))
      refine ⟨u, r, ?_⟩
      rcases q with ⟨k, e⟩ | ⟨k, c, e, z⟩
      · exact .inl ⟨k, by simp [yn, e]⟩
      · exact .inr ⟨k, c, e, z.sameBut hs (cne y c e)⟩
  · obtain ⟨w', z⟩ := I.cell y c e
    exact ⟨w', z.sameBut hs (cne y c e)⟩
  · obtain ⟨e, n, ne, nf, d⟩ := I.pin p hp
    exact ⟨(hs.2 p.1 ne).trans e, n, ne, nf, d⟩
end
/-- an expression that is tried: what is wanted of its exceptions is free -/
noncomputable def PEx (X : Cx) (e : Expr) (t : XK → TE) : Prop := ∀ (E : XK) (σ : St) (pn' : List (Addr × Obj)) (xe' : Value → Shared → Prop),
  (∀ (pins : List (Addr × Obj)) (H : Hp) (s : Shared) (v : Value) (s' : Shared), Inv { X with pn := pn', xe := xe' } pins σ H s → CX1 X.prog X.w X.stack H s E v s' → xe' v s') →
  ∀ (pins : List (Addr × Obj)) (s : Shared) (H : Hp) (Q : VK), Inv { X with pn := pn', xe := xe' } pins σ H s → t E σ H Q → wpAny (model X.prog X.w) X.A (eval e X.env) (EP { X with pn := pn', xe := xe' } pins σ Q) xe' s
/-- the callee runs, at one store -/
theorem run_at {X : Cx} {CX : CXT} {k : Nat} {f : Addr} {fd : FuncData} {ps : List Str} {sp : Sp} {E : XK} {pins : List (Addr × Obj)} {σ : St} {H : Hp} {s : Shared} {Q : VK} {us : List Value} {vs : List V}
    (F : FnOk X.prog X.w X.K X.mg X.base CX k f fd ps sp) (hr : Room k X.A) (hb : Binds X.K fd ps []) (hx : ∀ (pins : List (Addr × Obj)) (H : Hp) (s : Shared) (v : Value) (s' : Shared), Inv X pins σ H s → CX X.stack H s E v s' → X.xe v s')
    (I : Inv X pins σ H s) (r : Vals vs us) (h : sp vs H Q E) : wpAny (model X.prog X.w) X.A (call (.ref f) us) (EP X pins σ Q) X.xe s := by
  have hl : us.length = ps.length := by rw [← r.length]; exact F.len _ _ _ _ h
  have hb' := hb s us I.kIn (by rw [List.append_nil]; exact hl)
  rw [List.append_nil] at hb'
  refine wpAny_call (codeAny_mono (F.run X.A X.stack s H ⟨us, []⟩ us vs Q E hr I.env0 hb' r h) fun r s' hq => ?_)
  cases r with
  | error v => exact hx pins H s v s' I hq
  | ok fl => cases fl <;> first | exact I.after hq | exact False.elim hq
/-- what a caught exception is known for -/
noncomputable def excO (e : Addr) (cls : Value) : HO := .ext fun h => ∃ o, h.get? e = some o ∧ o.cls = cls ∧ ∃ vs, o.data = .fields vs
noncomputable def tTryAs (K : PySem.W.Frag) (Ck : Addr) (i : Nat) (tb : XK → TE) (ts : TS) : TS := fun D σ H =>
  tb (fun cls _ H1 => PySem.W.exmOne K cls (.ref Ck) = some true ∧ ∀ e, H1 e = none → ts { nx := fun σ' H' => D.nx (σ'.set i none) H', rt := D.rt, bk := fun σ' H' => D.bk (σ'.set i none) H', ct := fun σ' H' => D.ct (σ'.set i none) H' } (σ.set i (some (.ref e))) (upd H1 e (excO e cls))) σ H fun _ H1 => D.nx σ H1
theorem ps_tryAs {X : Cx} {call : Expr} {tb : XK → TE} {c n : Str} {Ck : Addr} {i : Nat} {b₀ : Stmt} {suite : List Stmt} {ts : TS} {ep cp hp pos : Pos}
    (hx : X.ex = []) (hst : X.stack = X.env :: X.outer) (hf : X.env.frame = some X.env.locals) (hN : X.N.Nodup) (hi : X.N[i]? = some n) (hl : X.env.scope.names.lookup n = some .local) (hg : Gl X c) (hm : X.mg c = some (.ref Ck))
    (hb : PEx X call tb) (hs : ∀ e, PSs (X.inExc e) (b₀ :: suite) ts) (hsw : swapsWith call none ep.line X.env = pure false := by rfl) (hd : (c == ("__debug__" : Str)) = false := by decide) :
    PS X (.Try [.Expr call ep] [.ExceptHandler (some (.Name c cp)) (some n) (b₀ :: suite) hp] [] [] pos) (tTryAs X.K Ck i tb ts) := by
  intro pins s σ H D I h
  refine wpAny_Try_except ?_
  unfold tTryAs at h
  generalize hE : (fun (cls : Value) (_ : Option Addr) (H1 : Hp) => PySem.W.exmOne X.K cls (.ref Ck) = some true ∧ ∀ e, H1 e = none → ts { nx := fun σ' H' => D.nx (σ'.set i none) H', rt := D.rt, bk := fun σ' H' => D.bk (σ'.set i none) H', ct := fun σ' H' => D.ct (σ'.set i none) H' } (σ.set i (some (.ref e))) (upd H1 e (excO e cls))) = E at h
  have ok' : ∀ xe', ({ X with pn := X.pn ++ pins, xe := xe' } : Cx).Ok := fun xe' =>
    ⟨I.ok.mod, I.ok.kind, I.ok.glob, I.ok.blt, I.ok.above, I.ok.inj, I.ok.has, I.ok.cab, I.ok.hd, I.ok.frames, I.ok.stk, I.ok.exf, I.ok.bs, I.ok.bsz, I.ok.noex, I.ok.exfs, I.ok.funs, I.ok.frf⟩
  have toX : ∀ {xe' pins' σ' H' s'}, Inv ({ X with pn := X.pn ++ pins, xe := xe' } : Cx) pins' σ' H' s' → Inv X pins σ' H' s' := fun J =>
    ⟨I.ok, J.os, J.bare, J.base, J.loc, J.cell, J.free, J.freeC, fun p hp => J.pin p (List.mem_append_left _ hp), J.hok, J.len⟩
  have I' : Inv ({ X with pn := X.pn ++ pins, xe := fun v s' => ∃ H1 s1, Inv X pins σ H1 s1 ∧ CX1 X.prog X.w X.stack H1 s1 E v s' } : Cx) [] σ H s :=
    ⟨ok' _, I.os, I.bare, I.base, I.loc, I.cell, I.free, I.freeC, fun p hp => I.pin p (by simpa using hp), I.hok, I.len⟩
  have body := hb E σ (X.pn ++ pins) (fun v s' => ∃ H1 s1, Inv X pins σ H1 s1 ∧ CX1 X.prog X.w X.stack H1 s1 E v s') (fun pins' H1 s1 v s' J q => ⟨H1, s1, toX J, q⟩) [] s H _ I' h
  refine wpAny_mono (wpAny_execs_cons (wpAny_Expr_any (thn body fun v s1 q => ?_) I.quiet hsw) : wpAny (model X.prog X.w) X.A (execs [.Expr call ep] X.env) (fun f s1 => f = .next ∧ ∃ H1, Inv X pins σ H1 s1 ∧ D.nx σ H1) _ s) (fun f s1 q => ?_) ?_
  · obtain ⟨x, H1, J, r, q⟩ := q
    exact wpAny_execs_nil ⟨rfl, H1, toX J, q⟩
  · obtain ⟨rfl, H1, J, q⟩ := q
    exact wpAny_execs_nil ⟨σ, H1, J, q⟩
  · rintro v s' ⟨H1, s1, I1, ea, T, cls, H2, rfl, n1, n2, f1, f2, tr, os, bare, un, hok, hE'⟩
    rw [← hE] at hE'
    obtain ⟨hmt, hsu⟩ := hE'
    have I2 : Inv X pins σ H2 s' := I1.call' os un hok bare fun b z => absurd z (by simp)
    have o1 := I1.ours hx n1
    have o2 := I1.ours hx n2
    have u1 : Ours X pins H2 ea := ⟨o1.1, f1, o1.2.1, o1.2.2.1, o1.2.2.2⟩
    have u2 : Ours X pins H2 T := ⟨o2.1, f2, o2.2.1, o2.2.2.1, o2.2.2.2⟩
    have fr : X.A.frames = some (X.env :: X.outer) := by rw [← hst]; exact I.ok.frames
    have fn : s'.heap.FunFrames X.base (X.env :: X.outer) := by rw [← hst]; exact I2.stack
    refine look_tr fr fn hf tr fun h3 T3 tr3 hT3 k3 => ?_
    have I3 : Inv X pins σ H2 { s' with heap := h3 } := I2.exc hx (ch := [ea, T]) (fun b hb => by
      rcases List.mem_cons.mp hb with z | z
      · rw [z]; exact u1
      · rw [show b = T by simpa using z]; exact u2) (by rw [hst]; exact k3)
    have u3 : Ours X pins H2 T3 := by
      rcases hT3 with z | z
      · rw [z]; exact u2
      · have o3 := I2.ours hx z
        exact ⟨o3.1, I2.hok.none z, o3.2.1, o3.2.2.1, o3.2.2.2⟩
    have LT : PySem.W.Looks (model X.prog X.w) h3 (typeOf (.ref ea)) cls := by
      obtain ⟨oe, vs, oT, ts, a0, he, hc, _⟩ := tr3
      subst hc
      exact (PySem.W.Looks.ld he).andThen .now
    refine wpAny_handleBy_cons (codeAny_handlers_test (ld_glob (I3.inExc ea) hg hm ?_ hd)) (by intro q; cases q)
    refine (PySem.W.exm_one (M := model X.prog X.w) I3.kIn LT hmt) _ _ _ _ (fun _ _ q => q) ?_
    show codeAny _ _ (.handlers (.ref ea) [.ExceptHandler none (some n) (b₀ :: suite) hp] X.env) _ _
    refine codeAny_handlers_suite_as (again_tr (base := X.base) (l := X.stack) I3.stack tr3 fun h5 T5 tr5 hT5 k5 => ?_)
    have I5 : Inv X pins σ H2 { s' with heap := h5 } := Inv.exc (s := { s' with heap := h3 }) I3 hx (ch := [ea, T3]) (fun b hb => by
      rcases List.mem_cons.mp hb with z | z
      · rw [z]; exact u1
      · rw [show b = T3 by simpa using z]; exact u3) k5
    refine store_ok2 (X := X.inExc ea) (I5.inExc ea) hN hi (.inl hl) (v := .ref ea) (u := .ref ea) rfl (fun s6 J6 ⟨ad, sb, had⟩ => ?_) (.inr hl)
    have hne : ea ≠ ad := by
      rcases had with z | z
      · rw [z]; exact u1.loc
      · exact fun y => u1.cell n ad z y.symm
    have new : ObjOk X.prog X.w (upd H2 ea (excO ea cls)) s6.heap ea (excO ea cls) := by
      obtain ⟨oe, vs, oT, ts, a0, he, hc, h0, hd, _⟩ := tr5
      have he6 : s6.heap.get? ea = some oe := (sb.2 ea hne).trans he
      refine ⟨⟨oe, he6, hc, vs, hd⟩, ⟨oe, he6⟩, ?_⟩
      rintro h1 h2 ⟨o, q, r⟩ k
      exact ⟨o, k o q, r⟩
    have J7 : Inv (X.inExc ea) pins (σ.set i (some (.ref ea))) (upd H2 ea (excO ea cls)) s6 := J6.track ⟨u1.new, u1.free, u1.loc, u1.cell, u1.pin⟩ new
    refine wpAny_mono (hs ea pins s6 _ _ _ J7 (hsu ea f1)) (fun f s7 q => ?_) (fun _ _ z => z.elim)
    have go : ∀ {σ' : St} {H' : Hp}, Inv (X.inExc ea) pins σ' H' s7 → ∀ (R : Shared → Prop), (∀ s8, Inv X pins (σ'.set i none) H' s8 → R s8) → wpAny (model X.prog X.w) X.A (do bindName X.env n .none; unbindBehindTheSuite X.env n hp) (fun _ s8 => R s8) X.xe s7 := fun {σ' H'} J R hR => by
      have J0 : Inv X pins σ' H' s7 := J.outExc I.ok
      obtain ⟨m, hn, hlk⟩ := J0.loc
      exact wpAny_nameGoes_keeps hl hn (by rw [I.ok.kind]; rfl) fun h' v hn' hs' => hR _ (J0.unbind hN hi hlk hn' hs')
    cases f with
    | next =>
      obtain ⟨σ', H', J, q⟩ := q
      exact go J _ fun s8 J8 => ⟨_, H', J8, q⟩
    | brk =>
      obtain ⟨σ', H', J, q⟩ := q
      exact go J _ fun s8 J8 => ⟨_, H', J8, q⟩
    | cont =>
      obtain ⟨σ', H', J, q⟩ := q
      exact go J _ fun s8 J8 => ⟨_, H', J8, q⟩
    | ret u =>
      obtain ⟨v, σ', H', J, r, q⟩ := q
      exact go J _ fun s8 J8 => ⟨v, _, H', J8, r, q⟩
end L2

set_option Elab.async false
set_option linter.all false
set_option maxRecDepth 100000
set_option maxHeartbeats 4000000
/-! Own words over the layer: a def with all that a caller asks of it, calls, boots, stores. -/
namespace L2
open PySem PySem.Spec PyProof.Rows
/-- a def of the text, its promise, and how it is called -/
structure Def (P : Program) (w : World) (K : PySem.W.Frag) (mg : Str → Option Value) (base : Heap) (x : Str) (ps : List Str) (k : Nat) (sp : Sp) (f : Addr) (fd : FuncData) : Prop where
  ok : FnOk P w K mg base (CX1 P w) k f fd ps sp
  b : Binds K fd ps []
  kp : PySem.W.keepIn K (.ref f) = true
  m : mg x = some (.ref f)
section
variable {X : Cx} {f : Addr} {fd : FuncData} {ps : List Str} {sp : Sp} {x : Str} {p pos : Pos} {e : Expr} {es : List Expr} {t : TA} {j k : Nat}
theorem pcall (D : Def X.prog X.w X.K X.mg X.base x ps j sp f fd) (hr : Room k X.A) (ha : PA X (e :: es) t) (hjk : j ≤ k := by decide) (hg : Gl X x := by rfl)
    (hdb : (x == ("__debug__" : Str)) = false := by decide) (he : starEach (e :: es) X.env = (false, eval e X.env) :: starEach es X.env := by rfl) (hpl : (backTo pos (starEach es X.env)).any (·.1) = false := by rfl) :
    PE X (.Call (.Name x p) (e :: es) [] pos) (tCall sp [] E0 t) := pe_call D.ok (hr.mono hjk) hg D.m D.kp D.b .nil passN ha hdb he hpl
/-- a call that is tried -/
theorem px_call (D : Def X.prog X.w X.K X.mg X.base x ps j sp f fd) (hr : Room k X.A) (ha : ∀ (pn' : List (Addr × Obj)) (xe' : Value → Shared → Prop), PA { X with pn := pn', xe := xe' } (e :: es) t) (hjk : j ≤ k := by decide) (hg : Gl X x := by rfl)
    (hdb : (x == ("__debug__" : Str)) = false := by decide) (he : starEach (e :: es) X.env = (false, eval e X.env) :: starEach es X.env := by rfl) (hpl : (backTo pos (starEach es X.env)).any (·.1) = false := by rfl) :
    PEx X (.Call (.Name x p) (e :: es) [] pos) (fun E => tCall sp [] E t) := by
  intro E σ pn' xe' hp pins s H Q I h
  refine wpAny_Call_Name_kw (ld_glob (X := { X with pn := pn', xe := xe' }) I hg D.m ?_ hdb)
  refine PySem.W.callWith_K (h₀ := X.base) I.ok.mod.kin D.kp (thn (ha pn' xe' pos pins s σ H _ I h) fun us s1 ⟨vs, H1, I1, r, q⟩ => ⟨I1.kIn, ?_⟩) he hpl
  have q : sp (vs ++ []) H1 Q E := q
  rw [List.append_nil] at q
  exact run_at (X := { X with pn := pn', xe := xe' }) D.ok (hr.mono hjk) D.b hp I1 r q
end
theorem bb_isinstance : bootBuiltins "isinstance" = some (.builtin "isinstance") := by decide +kernel
theorem bb_int : bootBuiltins "int" = some (.type "int") := by decide +kernel
theorem bb_list : bootBuiltins "list" = some (.type "list") := by decide +kernel
theorem bb_min : bootBuiltins "min" = some (.builtin "min") := by decide +kernel
theorem bb_len : bootBuiltins "len" = some (.builtin "len") := by decide +kernel
theorem Same.upd {H H' : Hp} (h : Same H H') {p : Addr} (n : H p = none) (o : HO) : Same H (L2.upd H' p o) := fun b u q => by
  rw [upd_ne (ne_of_none q n)]; exact h b u q
theorem Same.new {H H' : Hp} (h : Same H H') {p : Addr} (n : H' p = none) (o : HO) : Same H (L2.upd H' p o) := h.trans fun b u q => by
  rw [upd_ne (ne_of_none q n)]; exact q
theorem sz {n : Nat} (h : n ≤ 1000000) : n ≤ sizeLine := Nat.le_trans h (by decide)
theorem sz' {n : Nat} (h : n ≤ 1000000) : n < sizeLine := Nat.lt_of_le_of_lt h (by decide)
theorem atI_int {ns : List Int} {i : Int} (h0 : 0 ≤ i) (h1 : i < (ns.length : Int)) : atI (ns.map V.int) i = some (.int (ns.getD i.toNat 0)) := by
  have hk : i.toNat < ns.length := by omega
  have ek : i = ((i.toNat : Nat) : Int) := by omega
  have q : atI (ns.map V.int) ((i.toNat : Nat) : Int) = some (.int (ns.getD i.toNat 0)) := atI_nat (by rw [List.getElem?_map, List.getD_eq_getElem?_getD, List.getElem?_eq_getElem hk] <;> rfl)
  rw [← ek] at q
  exact q
end L2
namespace L2
open PySem PySem.Spec PyProof.Rows
theorem ttN {σ : St} {H : Hp} {F : Bool → Hp → Prop} (h : F true H) : ttNil σ H F := h
theorem pm {j : Int} (h : 0 < j) : 0 < j := h
theorem get_int {ns : List Int} {i : Nat} {x : V} (h : (ns.map V.int)[i]? = some x) : ∃ c, x = .int c := by
  rw [List.getElem?_map] at h
  cases e : ns[i]? with
  | none => rw [e] at h; cases h
  | some c => rw [e] at h; cases h; exact ⟨c, rfl⟩
end L2
namespace L2
open PySem PySem.Spec PyProof.Rows
/-- a sequence cut at what holds between -/
noncomputable def tCut (t u : TS) : TS := fun D σ H => ∃ P : St → Hp → Prop, t { D with nx := P } σ H ∧ ∀ σ' H', P σ' H' → u D σ' H'
theorem pss_cut {X : Cx} {st : Stmt} {rest : List Stmt} {t u : TS} (h1 : PS X st t) (h2 : PSs X rest u) : PSs X (st :: rest) (tCut t u) := by
  intro pins s σ H D I h
  obtain ⟨P, ha, hb⟩ := h
  refine wpAny_execs_cons (thn (h1 pins s σ H { D with nx := P } I ha) fun f s1 q => ?_)
  cases f with
  | next =>
    obtain ⟨σ', H', I', q⟩ := q
    exact h2 pins s1 σ' H' D I' (hb σ' H' q)
  | ret v => exact q
  | brk => exact q
  | cont => exact q
theorem iteP {c A B : Prop} [Decidable c] (hc : c) (h : A) : if decide c = true then A else B := by rw [decide_eq_true hc]; exact iteT h
theorem iteN {c A B : Prop} [Decidable c] (hc : ¬ c) (h : B) : if decide c = true then A else B := by rw [decide_eq_false hc]; exact iteF h
theorem ixN_nat {n : Nat} {i : Int} (h0 : 0 ≤ i) (h1 : i < n) : ixN n i = some i.toNat := by unfold ixN; rw [if_pos h0, if_pos h1]
end L2

/-! Mathematics of the counts: the rule, the shares, the rests. No library. -/
namespace Ck
end Ck

/-! Mathematics of the rests and of the places of texts. -/
namespace Ck
/-- r(u, d) -/
noncomputable def r : Nat → Nat → Int
  | 0, _ => 1
  | _ + 1, 0 => 0
  | u + 1, d + 1 => if d < u then 0 else r u (d + 1) + r (u + 1) d
/-- the row of u for a size n -/
noncomputable def row (n u : Nat) : List Int := (List.range (n + 1 - u)).map fun i => r u (u + i)
/-- r by reckoning over naturals, for the equality with the shares -/
noncomputable def scanN (a : Nat) : List Nat → List Nat
  | [] => []
  | x :: l => (x + a) :: scanN (x + a) l
noncomputable def rowN (n : Nat) : Nat → List Nat
  | 0 => List.replicate (n + 1) 1
  | u + 1 => scanN 0 ((rowN n u).drop 1)
/-- the product of k factors -/
noncomputable def pw (a : Int) : Nat → Int
  | 0 => 1
  | k + 1 => pw a k * a
end Ck

/-! Mathematics of texts that close: signs are codes, 40 is the opening one, 41 the closing one. u of the first and d of the second are still to come. -/
namespace Ck
/-- the order of texts, the opening sign first -/
noncomputable def lt : List Nat → List Nat → Bool
  | c :: s, e :: t => if c = e then lt s t else c == 40
  | _, _ => false
end Ck

set_option Elab.async false
set_option linter.all false
set_option maxRecDepth 100000
set_option maxHeartbeats 4000000
/-! Texts as lists of codes: slices, counts, repeats. -/
namespace Ck
open PySem
/-- a bound of a slice as a place -/
noncomputable def ix (n d : Nat) : Option Int → Nat
  | none => d
  | some v => if v < 0 then (v + (n : Int)).toNat else min v.toNat n
end Ck

set_option Elab.async false
set_option linter.all false
set_option maxRecDepth 100000
set_option maxHeartbeats 4000000
/-! Where the mathematics and the layer meet. -/
namespace Ck
open PySem L2
end Ck
namespace L2
open PySem
theorem rep_one (k : Nat) (v : V) : (List.replicate k [v]).flatten = List.replicate k v := by
  induction k with
  | zero => rfl
  | succ k ih => rw [List.replicate_succ, List.flatten_cons, ih, List.replicate_succ]; rfl
end L2
namespace Ck
open PySem L2
end Ck
namespace L2
open PySem PySem.Spec PyProof.Rows
end L2
namespace Ck
open PySem L2
end Ck

set_option Elab.async false
set_option linter.all false
set_option maxRecDepth 100000
set_option maxHeartbeats 4000000
/-! Own rules over the layer: a range that goes down, lists compared, isinstance of an exception. -/
namespace L2
open PySem PySem.Spec PyProof.Rows
/-- lo, lo - 1, .. (n of them) -/
noncomputable def Itd (lo : Int) (n : Nat) : It := ⟨fun i _ => i < n, fun i H x H' => H' = H ∧ x = .int (lo - i), fun i _ => n ≤ i⟩
theorem turn_down {P : Program} {w : World} {K : PySem.W.Frag} {tg : Expr} (it : Addr) (lo : Int) (n : Nat) : Turn P w K tg (Itd lo n) [it] it (fun i h => IsRangeIter h it (lo + (i : Nat) * (-1)) ((n : Int) - (i : Nat)) (-1)) where
  mem := by simp
  obj := fun i h st b hb => by
    have e : b = it := by simpa using hb
    subst e
    exact ⟨_, st, fun v z => by
      have z' : Data.fields _ = Data.cell v := z
      cases z'⟩
  keep := fun i h h' st k => k it (by simp) _ st
  item := by
    intro X hP hw hK hc i pins s σ H E I hf st hg
    subst hP hw hK
    obtain ⟨f0, f1, f2, f3, f4, f5⟩ := hf it (by simp)
    refine (Walks.range (prog := X.prog) (w := X.w) (I.ok.hd hc) it lo (-1) n).item i s _ _ hg st fun v h' tk hv st' kk => ?_
    obtain ⟨t, rfl⟩ := hv
    have I1 : Inv X pins σ H { s with heap := h', toks := tk } := I.turned (fun b o hb e => kk b o (by simpa using hb) e) f0 f1 f3 f4 f5
    refine ⟨_, rfl, go_of (s := { s with heap := h', toks := tk }) (n := "range_iterator") st' rfl rfl (by decide) ⟨.int (lo - i), H, I1, ⟨t, ?_⟩, ⟨rfl, rfl⟩, st', fun b hb => (hf b hb).1⟩⟩
    rw [show lo + (i : Int) * (-1) = lo - (i : Int) by omega]
  done := by
    intro X hP hw hK hc i pins s σ H E I hf st hg
    subst hP hw hK
    obtain ⟨f0, f1, f2, f3, f4, f5⟩ := hf it (by simp)
    exact wpAny_pyNext_range_end (I.ok.hd hc) st (by have : n ≤ i := hg; omega) fun h' eb => ⟨rfl, I.turned (t' := s.toks) (fun b o hb e => eb b o hb e) f0 f1 f3 f4 f5⟩
  self := fun _ _ _ _ _ st h => wpAny_pyIter_rangeiter st h
section
variable {X : Cx} {tg : Expr}
theorem down_it {pins : List (Addr × Obj)} {σ : St} {H : Hp} {s : Shared} {R : It → Hp → Prop} {E : Value → Shared → Prop} {lo hi : Int} {t u v : Tok} {tk : Nat} (I : Inv X pins σ H s) (h1 : -(2 ^ 62) ≤ lo) (h2 : lo < 2 ^ 62) (h3 : -(2 ^ 62) ≤ hi) (h4 : hi < 2 ^ 62)
    (q : R (Itd lo (lo - hi).toNat) H) : wpAny (model X.prog X.w) X.A (pyIter (.ref s.heap.objs.size)) (PIE X pins σ tg R) E { s with heap := s.heap.push { cls := .type "range", data := .fields #[.int lo t, .int hi u, .int (-1) v] }, toks := tk } := by
  refine wpAny_pyIter_range (IsRange.new ..) (PySem.W.small_down h1 h2 h3 h4) ?_
  have I1 : Inv X pins σ H { s with heap := s.heap.push { cls := .type "range", data := .fields #[.int lo t, .int hi u, .int (-1) v] }, toks := tk } := I.kept fun b o e => Heap.get?_push_of_some _ e
  refine ⟨(s.heap.push { cls := .type "range", data := .fields #[.int lo t, .int hi u, .int (-1) v] }).objs.size, [(s.heap.push { cls := .type "range", data := .fields #[.int lo t, .int hi u, .int (-1) v] }).objs.size], _, _, H, rfl,
    I1.kept (t' := tk) fun b o e => Heap.get?_push_of_some _ e, turn_down _ lo (lo - hi).toNat, ?_, fun b hb => ?_, q⟩
  · have e1 : lo + ((0 : Nat) : Int) * (-1) = lo := by simp
    have e2 : (((lo - hi).toNat : Nat) : Int) - ((0 : Nat) : Int) = Builtin.Range.rangeSize lo hi (-1) := by rw [PySem.W.rangeSize_downNat]; simp
    show IsRangeIter _ _ (lo + ((0 : Nat) : Int) * (-1)) ((((lo - hi).toNat : Nat) : Int) - ((0 : Nat) : Int)) (-1)
    rw [e1, e2]
    exact Heap.get?_push_size _ rfl
  · have e : b = (s.heap.push { cls := .type "range", data := .fields #[.int lo t, .int hi u, .int (-1) v] }).objs.size := by simpa using hb
    subst e
    exact I1.fpOk (Nat.le_refl _) (I1.hok.fresh (Nat.le_refl _))
noncomputable def iDown (ta : TA) : TI := fun σ H R => ta σ H fun vs H1 => ∃ i j : Int, vs = [.int i, .int j, .int (-1)] ∧ (-(2 ^ 62) ≤ i ∧ i < 2 ^ 62 ∧ -(2 ^ 62) ≤ j ∧ j < 2 ^ 62) ∧ R (Itd i (i - j).toNat) H1
theorem pi_down {a b c : Expr} {ta : TA} {p pos : Pos} (hg : Gl X "range") (hm : X.mg "range" = none) (ha : PA X [a, b, c] ta) (hs : starEach [a, b, c] X.env = [(false, eval a X.env), (false, eval b X.env), (false, eval c X.env)] := by rfl) (hs2 : starEach [b, c] X.env = [(false, eval b X.env), (false, eval c X.env)] := by rfl) :
    PI X tg (.Call (.Name "range" p) [a, b, c] [] pos) (iDown ta) := by
  intro pins s σ H R I h
  refine Call_ (ld_blt I hg hm boot_range (PyProof.Rows.callWith_type1 (thn (ha pos pins s σ H _ I h) fun us s1 ⟨vs, H1, I1, r1, q1⟩ => ?_) (by rw [hs, hs2]) (by rw [hs2]; rfl)))
  obtain ⟨i, j, e, ⟨q1, q2, q3, q4⟩, q⟩ := q1
  subst e
  obtain ⟨u1, u2, u3, rfl, ⟨t, rfl⟩, ⟨t', rfl⟩, t'', rfl⟩ : ∃ u1 u2 u3, us = [u1, u2, u3] ∧ RelV (.int i) u1 ∧ RelV (.int j) u2 ∧ RelV (.int (-1)) u3 := by
    cases r1 with
    | cons r rr => cases rr with
      | cons r' rr => cases rr with
        | cons r'' rr => cases rr; exact ⟨_, _, _, rfl, r, r', r''⟩
  exact call_range_3 (by decide) (down_it I1 q1 q2 q3 q4 q) (.inl (PyProof.noPylong_small (by decide)))
theorem for_down {lo : Int} {n : Nat} {g : TG} {tb : TS} {D : Ends} {σ : St} {H : Hp} (Pv : Nat → St → Hp → Prop) (h0 : Pv 0 σ H)
    (hs : ∀ i σ H, i < n → Pv i σ H → g (.int (lo - i)) σ H fun σ2 H2 => tb { D with nx := Pv (i + 1), ct := Pv (i + 1), bk := D.nx } σ2 H2) (hd : ∀ σ H, Pv n σ H → D.nx σ H) :
    ∃ W : Nat → Nat → St → Hp → Prop, (∃ m, W 0 m σ H) ∧ ∀ i m σ H, W i m σ H →
      ((Itd lo n).stop i H ∧ D.nx σ H) ∨ ((Itd lo n).go i H ∧ ∃ N : St → Hp → Prop, (∀ σ' H', N σ' H' → ∃ m', m' < m ∧ W (i + 1) m' σ' H') ∧ ∀ x H', (Itd lo n).yld i H x H' → g x σ H' fun σ2 H2 => tb { D with nx := N, ct := N, bk := D.nx } σ2 H2) := by
  refine ⟨fun i m σ H => m = n - i ∧ i ≤ n ∧ Pv i σ H, ⟨n, by simp, Nat.zero_le _, h0⟩, ?_⟩
  rintro i m σ H ⟨rfl, hi, p⟩
  by_cases hlt : i < n
  · refine .inr ⟨hlt, Pv (i + 1), fun σ' H' p' => ⟨n - (i + 1), by omega, rfl, hlt, p'⟩, fun x H' y => ?_⟩
    obtain ⟨rfl, rfl⟩ := y
    exact hs i σ _ hlt p
  · have e : i = n := by omega
    subst e
    exact .inl ⟨Nat.le_refl _, hd σ H p⟩
end

/-! ### lists of plain values compared -/
noncomputable def eqL : List V → List V → Bool
  | [], [] => true
  | x :: xs, y :: ys => eqV x y && eqL xs ys
  | _, _ => false
theorem eqL_len : ∀ {xs ys : List V}, xs.length ≠ ys.length → eqL xs ys = false
  | [], [], h => absurd rfl h
  | [], _ :: _, _ => rfl
  | _ :: _, [], _ => rfl
  | x :: xs, y :: ys, h => by
    rw [eqL, eqL_len (xs := xs) (ys := ys) (by simpa using h), Bool.and_false]
theorem eqL_all : ∀ {xs ys : List V}, xs.length = ys.length → (List.range xs.length).all (fun j => eqV (xs.getD j .non) (ys.getD j .non)) = eqL xs ys
  | [], [], _ => rfl
  | x :: xs, y :: ys, h => by
    rw [eqL, ← eqL_all (xs := xs) (ys := ys) (by simpa using h), List.length_cons, List.range_succ_eq_map, List.all_cons, List.all_map]
    rfl
noncomputable def rEqL (K : PySem.W.Frag) (neg : Bool) : R2 := fun x y H Q => ∃ a b xs ys, x = .ref a ∧ y = .ref b ∧ SqL K H a xs ∧ SqL K H b ys ∧ xs.all flatV = true ∧ ys.all flatV = true ∧ Q (.bl (if neg then !eqL xs ys else eqL xs ys)) H
section
variable {X : Cx}
theorem items_eqAt {A : Around} {s : Shared} {xs ys : List V} {us vs : List Value} (r : Vals xs us) (r' : Vals ys vs) (fx : xs.all flatV = true) (fy : ys.all flatV = true) :
    ∀ j (h1 : j < us.toArray.size) (h2 : j < vs.toArray.size), SeqAt.EqAt A s us.toArray[j] vs.toArray[j] (eqV (xs.getD j .non) (ys.getD j .non)) := fun j h1 h2 => by
  have l1 := r.length
  have l2 := r'.length
  have h1' : j < us.length := by simpa using h1
  have h2' : j < vs.length := by simpa using h2
  obtain ⟨u, eu, ru⟩ := r.get (List.getElem?_eq_getElem (show j < xs.length by omega))
  obtain ⟨v, ev, rv⟩ := r'.get (List.getElem?_eq_getElem (show j < ys.length by omega))
  have e1 : us.toArray[j] = u := by
    rw [List.getElem?_eq_getElem h1'] at eu
    simpa using eu
  have e2 : vs.toArray[j] = v := by
    rw [List.getElem?_eq_getElem h2'] at ev
    simpa using ev
  rw [e1, e2]
  have g1 : xs.getD j .non = xs[j]'(by omega) := by rw [List.getD_eq_getElem?_getD, List.getElem?_eq_getElem (show j < xs.length by omega)]; rfl
  have g2 : ys.getD j .non = ys[j]'(by omega) := by rw [List.getD_eq_getElem?_getD, List.getElem?_eq_getElem (show j < ys.length by omega)]; rfl
  rw [g1, g2]
  exact eqAt_V ru rv (List.all_eq_true.mp fx _ (List.getElem_mem _)) (List.all_eq_true.mp fy _ (List.getElem_mem _))
theorem op_eq_list (hu : X.A.units < cLine) : OpR X (compareOp .Eq) (rEqL X.K false) := by
  intro pins s σ H x y v u Q I rx ry h
  obtain ⟨a, b, xs, ys, rfl, rfl, ha, hb, fx, fy, q⟩ := h
  cases rx
  cases ry
  obtain ⟨us, r, pl, hz⟩ := I.list ha
  obtain ⟨vs, r', pl', hz'⟩ := I.list hb
  have l1 := r.length
  have l2 := r'.length
  by_cases hl : xs.length = ys.length
  · refine SeqAt.eq_listAt (e := fun j => eqV (xs.getD j .non) (ys.getD j .non)) pl.isList pl'.isList (by simp; omega) hu (items_eqAt r r' fx fy) ⟨.bl _, H, I, rfl, ?_⟩
    rw [show us.toArray.size = xs.length by simp; omega, eqL_all hl]
    exact q
  · refine SeqAt.eq_list_lengthsAt pl.isList pl'.isList (by simp; omega) hu ⟨.bl false, H, I, rfl, ?_⟩
    rw [← eqL_len hl]
    exact q
theorem op_ne_list (hu : X.A.units < cLine) : OpR X (compareOp .NotEq) (rEqL X.K true) := by
  intro pins s σ H x y v u Q I rx ry h
  obtain ⟨a, b, xs, ys, rfl, rfl, ha, hb, fx, fy, q⟩ := h
  cases rx
  cases ry
  obtain ⟨us, r, pl, hz⟩ := I.list ha
  obtain ⟨vs, r', pl', hz'⟩ := I.list hb
  have l1 := r.length
  have l2 := r'.length
  by_cases hl : xs.length = ys.length
  · refine SeqAt.RcNeAt.lists (e := fun j => eqV (xs.getD j .non) (ys.getD j .non)) pl.isList pl'.isList (by simp; omega) hu (items_eqAt r r' fx fy) _ _ _ _ ⟨.bl _, H, I, rfl, ?_⟩
    rw [show us.toArray.size = xs.length by simp; omega, eqL_all hl]
    exact q
  · refine SeqAt.RcNeAt.lists_lengths pl.isList pl'.isList (by simp; omega) hu _ _ _ _ ⟨.bl true, H, I, rfl, ?_⟩
    have z := eqL_len hl
    rw [z] at q
    exact q
end
end L2

set_option Elab.async false
set_option linter.all false
set_option maxRecDepth 100000
set_option maxHeartbeats 4000000
/-! Own rules: what isinstance says of a caught exception; the program's classes of refusals. -/
namespace L2
open PySem PySem.Spec PyProof.Rows PySem.W Builtin Builtin.ObjectAttr Builtin.Getset_descriptor
/-- what of an own class of exceptions is asked -/
noncomputable def excK (K : Frag) (C : Addr) : Bool :=
  findIn K (.ref C) "__getattribute__" == some (some (.builtin "BaseException.__getattribute__")) && findIn K (.ref C) "__getattr__" == some none &&
  findIn K (.ref C) "__class__" == some (some (.builtin "object.__class__")) && specialIn K (.builtin "object.__class__") "__get__" == some (some (.builtin "getset_descriptor.__get__")) &&
  takesIn K (.builtin "object.__class__") == some true && mroIn K C (.type "object") == some true && mroIn K C (.type "BaseException") == some true && (clsIn K C).isSome
structure ExcK (K : Frag) (C : Addr) : Prop where
  ga : findIn K (.ref C) "__getattribute__" = some (some (.builtin "BaseException.__getattribute__"))
  gh : findIn K (.ref C) "__getattr__" = some none
  cl : findIn K (.ref C) "__class__" = some (some (.builtin "object.__class__"))
  gt : specialIn K (.builtin "object.__class__") "__get__" = some (some (.builtin "getset_descriptor.__get__"))
  tk : takesIn K (.builtin "object.__class__") = some true
  mo : mroIn K C (.type "object") = some true
  mb : mroIn K C (.type "BaseException") = some true
  is : (clsIn K C).isSome = true
theorem excK_of {K : Frag} {C : Addr} (h : excK K C = true) : ExcK K C := by
  unfold excK at h
  simp only [Bool.and_eq_true, beq_iff_eq] at h
  obtain ⟨⟨⟨⟨⟨⟨⟨a, b⟩, c⟩, d⟩, e⟩, f⟩, g⟩, i⟩ := h
  exact ⟨a, b, c, d, e, f, g, i⟩
section
variable {K : Frag} {e C : Addr} {M : Model} {h : Heap} {prog : Program} {w : World} {A : Around} {E : Value → Shared → Prop} {s : Shared}
/-- an exception of the class at C lies at e -/
noncomputable def IsX (e C : Addr) (h : Heap) : Prop := ∃ o, h.get? e = some o ∧ o.cls = .ref C ∧ ∃ vs, o.data = .fields vs
theorem IsX.ty (x : IsX e C h) : Looks M h (typeOf (.ref e)) (.ref C) := by
  obtain ⟨o, ho, hc, _⟩ := x
  rw [← hc]
  exact (Looks.ld ho).andThen .now
theorem ExcK.find (F : ExcK K C) (X : K.In h) (x : Value) : Looks M h (Builtin.ObjectAttr.find x (.ref C) "__class__") (.bind (.builtin "getset_descriptor.__get__") (.builtin "object.__class__")) := by
  unfold Builtin.ObjectAttr.find
  refine (looks_findIn X F.cl).andThen ?_
  refine Looks.andThen (a := some (.builtin "getset_descriptor.__get__")) (looks_specialIn X F.gt) ?_
  refine Looks.andThen (a := some (.builtin "getset_descriptor.__get__", .builtin "object.__class__")) ?_ (Looks.tag .now)
  exact (looks_takesIn X F.tk).andThen .now
end
section
variable {K : Frag} {e C : Addr} {M : Model} {h : Heap} {prog : Program} {w : World} {A : Around} {E : Value → Shared → Prop} {s : Shared}
theorem ExcK.got (F : ExcK K C) {R : Result → Shared → Prop} {tp : Value} (X : K.In s.heap) (I : IsX e C s.heap) (q : R (.ok (.ret (.ref C))) s) :
    codeAny (model prog w) A (.call (.builtin "getset_descriptor.__get__") ⟨[.builtin "object.__class__", .ref e, tp], []⟩) R s := by
  obtain ⟨hh, g, dr, t, os⟩ := s
  have L0 := I.ty (M := model prog w)
  have L1 := looks_mroIn (M := model prog w) X F.mo
  refine codeAny_call_builtin KF.slot_gs.plain KF.entry_gs (KF.slot_gs.check _ _ _ _ _ _ _ _ KF.type_class (KF.args_gs _ _ _) ?_)
  unfold Builtin.«getset_descriptor.__get__» descrGet
  rw [dga_obj]
  refine wpAny_bind (wpAny_pure ?_)
  unfold descrGetter descrCheckInstance descrNameAndClass isInstance
  simp only [KF.owner_class]
  repeat lk
  refine ⟨Code.quiet_builtin _ (by decide +kernel), codeAny_builtin KF.entry_class ?_⟩
  unfold Builtin.«object.__class__» shownTypeOf
  repeat lk
  exact q
theorem ExcK.checked (F : ExcK K C) {nv : Value} {Q : Unit → Shared → Prop} (X : K.In s.heap) (I : IsX e C s.heap) (q : Q () s) : wpAny M A (checkBuiltinCall "BaseException.__getattribute__" ⟨[.ref e, nv], []⟩) Q E s := by
  obtain ⟨hh, g, dr, t, os⟩ := s
  have LI : Looks M hh (isInstance (.ref e) (.type "BaseException")) true := I.ty.andThen (looks_mroIn X F.mb)
  have e1 : builtinKind "BaseException.__getattribute__" = some .slot := (by decide +kernel)
  have e2 : splitId "BaseException.__getattribute__" = some (("BaseException", "__getattribute__") : String × String) := by decide +kernel
  have e3 := PySem.F.args_bexc_ga (.ref e) nv
  simp only [checkBuiltinCall, e1, e2]
  refine wpAny_bind (LI.at ?_)
  repeat (first | assumption | wp_step)
theorem ExcK.attr (F : ExcK K C) {tk : Tok} {Q : Value → Shared → Prop} (X : K.In s.heap) (I : IsX e C s.heap) (q : Q (.ref C) s) : wpAny (model prog w) A (getAttrBy (.ref e) (.str "__class__" tk) false false) Q E s := by
  obtain ⟨hh, g, dr, t, os⟩ := s
  have L0 := I.ty (M := model prog w)
  have L1 := looks_findIn (M := model prog w) X F.ga
  have L2 := looks_findIn (M := model prog w) X F.gh
  have L3 := F.find (M := model prog w) X (.ref e)
  have b := PySem.F.attr_ValueError.ga.bind (.ref e)
  unfold getAttrBy
  refine wpAny_holding (wpAny_bind (L0.at (wpAny_bind (L1.at ?_))))
  show wpAny _ _ (getAttrByItsOwn _ _ _ _ _ _) _ _ _
  unfold getAttrByItsOwn hookBefore
  refine wpAny_bind (L2.at ?_)
  refine wpAny_bind (wpAny_attempt (wpAny_holding ?_))
  show wpAny _ _ (boundAndCalled _ _ _) _ _ _
  unfold boundAndCalled
  rw [b]
  refine wpAny_bind (wpAny_pure (wpAny_call (codeAny_call_builtin PySem.F.attr_ValueError.ga.plain PySem.F.entry_bexc_ga (F.checked X I ?_))))
  show wpAny _ _ (Builtin.«object.__getattribute__» ⟨[.ref e, .str "__class__" tk], []⟩) _ _ _
  unfold Builtin.«object.__getattribute__»
  repeat lk
  show wpAny _ _ (run (.call (.builtin "getset_descriptor.__get__") ⟨[.builtin "object.__class__", .ref e, .ref C], []⟩) none) _ _ _
  refine wpAny_run (h := none) (F.got X I ?_)
  show wpAny _ _ (pure (Value.ref C)) _ _ _
  refine wpAny_pure ?_
  show wpAny _ _ (ret (.ref C)) _ _ _
  refine wpAny_pure ?_
  exact handed_on rfl q
theorem kitx_exc (F : ExcK K C) : KitX K (.ref e) (.ref C) (IsX e C) where
  ty := fun _ _ _ I => I.ty
  it := fun _ _ X _ => by
    have hc := F.is
    unfold clsIn at hc
    split at hc
    · rename_i ho
      intro A' Q' E' s' k q
      unfold isType loadHead
      exact wpAny_bind (wpAny_loadPart (k _ _ (X _ _ ho)) (wpAny_pure q))
    · cases hc
  ne := fun h tp dd its n sl X htp => by
    have hc := F.is
    refine Bool.eq_false_iff.mpr fun q => ?_
    have z : C = tp := Value.ref.inj (beq_iff_eq.mp q)
    subst z
    unfold clsIn at hc
    split at hc
    · rename_i ho
      have z := (X _ _ ho).symm.trans htp
      cases z
    · cases hc
  ca := fun {prog w A E Q s} X I q => by
    obtain ⟨hh, g, d, t, os⟩ := s
    unfold getAttr? getAttrBy?
    refine wpAny_bind (wpAny_mkText (wpAny_bind (wpAny_attempt (F.attr (s := ⟨hh, g, d, t + 1, os⟩) X I ?_))))
    exact wpAny_pure q
end
/-- where the classes of refusals lie -/
structure Errs where
  kin : Addr
  size : Addr
  number : Addr
  thing : Addr
  family : Addr
  way : Addr
  apart : Addr
  mark : Addr
  text : Addr
  broken : Addr
noncomputable def errTab (K : Frag) (er : Errs) : Bool :=
  (excIn K er.size veB "ValueError.__new__") &&
  (excK K er.size) &&
  (exmOne K (.ref er.size) (.ref er.kin) == some true) &&
  (kitOne K (.ref er.size) (.type "ValueError") == some true) &&
  (kitOne K (.ref er.size) (.ref er.size) == some true) &&
  (kitOne K (.ref er.size) (.ref er.number) == some false) &&
  (kitOne K (.ref er.size) (.ref er.thing) == some false) &&
  (kitOne K (.ref er.size) (.ref er.family) == some false) &&
  (kitOne K (.ref er.size) (.ref er.way) == some false) &&
  (kitOne K (.ref er.size) (.ref er.apart) == some false) &&
  (kitOne K (.ref er.size) (.ref er.mark) == some false) &&
  (kitOne K (.ref er.size) (.ref er.text) == some false) &&
  (kitOne K (.ref er.size) (.ref er.broken) == some false) &&
  (excIn K er.number veB "ValueError.__new__") &&
  (excK K er.number) &&
  (exmOne K (.ref er.number) (.ref er.kin) == some true) &&
  (kitOne K (.ref er.number) (.type "ValueError") == some true) &&
  (kitOne K (.ref er.number) (.ref er.size) == some false) &&
  (kitOne K (.ref er.number) (.ref er.number) == some true) &&
  (kitOne K (.ref er.number) (.ref er.thing) == some false) &&
  (kitOne K (.ref er.number) (.ref er.family) == some false) &&
  (kitOne K (.ref er.number) (.ref er.way) == some false) &&
  (kitOne K (.ref er.number) (.ref er.apart) == some false) &&
  (kitOne K (.ref er.number) (.ref er.mark) == some false) &&
  (kitOne K (.ref er.number) (.ref er.text) == some false) &&
  (kitOne K (.ref er.number) (.ref er.broken) == some false) &&
  (excIn K er.thing veB "ValueError.__new__") &&
  (excK K er.thing) &&
  (exmOne K (.ref er.thing) (.ref er.kin) == some true) &&
  (kitOne K (.ref er.thing) (.type "ValueError") == some true) &&
  (kitOne K (.ref er.thing) (.ref er.size) == some false) &&
  (kitOne K (.ref er.thing) (.ref er.number) == some false) &&
  (kitOne K (.ref er.thing) (.ref er.thing) == some true) &&
  (kitOne K (.ref er.thing) (.ref er.family) == some false) &&
  (kitOne K (.ref er.thing) (.ref er.way) == some false) &&
  (kitOne K (.ref er.thing) (.ref er.apart) == some false) &&
  (kitOne K (.ref er.thing) (.ref er.mark) == some false) &&
  (kitOne K (.ref er.thing) (.ref er.text) == some false) &&
  (kitOne K (.ref er.thing) (.ref er.broken) == some false)
structure ErrOk (K : Frag) (mg : Str → Option Value) (er : Errs) : Prop where
  m_kin : mg "KinError" = some (.ref er.kin)
  m_size : mg "NoSize" = some (.ref er.size)
  m_number : mg "NoNumber" = some (.ref er.number)
  m_thing : mg "NoThing" = some (.ref er.thing)
  m_family : mg "NoFamily" = some (.ref er.family)
  m_way : mg "NoWay" = some (.ref er.way)
  m_apart : mg "Apart" = some (.ref er.apart)
  m_mark : mg "NoMark" = some (.ref er.mark)
  m_text : mg "NoText" = some (.ref er.text)
  m_broken : mg "Broken" = some (.ref er.broken)
  x_size : excI K er.size
  k_size : ExcK K er.size
  c_size : exmOne K (.ref er.size) (.ref er.kin) = some true
  size_value : kitOne K (.ref er.size) (.type "ValueError") = some true
  size_size : kitOne K (.ref er.size) (.ref er.size) = some true
  size_number : kitOne K (.ref er.size) (.ref er.number) = some false
  size_thing : kitOne K (.ref er.size) (.ref er.thing) = some false
  size_family : kitOne K (.ref er.size) (.ref er.family) = some false
  size_way : kitOne K (.ref er.size) (.ref er.way) = some false
  size_apart : kitOne K (.ref er.size) (.ref er.apart) = some false
  size_mark : kitOne K (.ref er.size) (.ref er.mark) = some false
  size_text : kitOne K (.ref er.size) (.ref er.text) = some false
  size_broken : kitOne K (.ref er.size) (.ref er.broken) = some false
  x_number : excI K er.number
  k_number : ExcK K er.number
  c_number : exmOne K (.ref er.number) (.ref er.kin) = some true
  number_value : kitOne K (.ref er.number) (.type "ValueError") = some true
  number_size : kitOne K (.ref er.number) (.ref er.size) = some false
  number_number : kitOne K (.ref er.number) (.ref er.number) = some true
  number_thing : kitOne K (.ref er.number) (.ref er.thing) = some false
  number_family : kitOne K (.ref er.number) (.ref er.family) = some false
  number_way : kitOne K (.ref er.number) (.ref er.way) = some false
  number_apart : kitOne K (.ref er.number) (.ref er.apart) = some false
  number_mark : kitOne K (.ref er.number) (.ref er.mark) = some false
  number_text : kitOne K (.ref er.number) (.ref er.text) = some false
  number_broken : kitOne K (.ref er.number) (.ref er.broken) = some false
  x_thing : excI K er.thing
  k_thing : ExcK K er.thing
  c_thing : exmOne K (.ref er.thing) (.ref er.kin) = some true
  thing_value : kitOne K (.ref er.thing) (.type "ValueError") = some true
  thing_size : kitOne K (.ref er.thing) (.ref er.size) = some false
  thing_number : kitOne K (.ref er.thing) (.ref er.number) = some false
  thing_thing : kitOne K (.ref er.thing) (.ref er.thing) = some true
  thing_family : kitOne K (.ref er.thing) (.ref er.family) = some false
  thing_way : kitOne K (.ref er.thing) (.ref er.way) = some false
  thing_apart : kitOne K (.ref er.thing) (.ref er.apart) = some false
  thing_mark : kitOne K (.ref er.thing) (.ref er.mark) = some false
  thing_text : kitOne K (.ref er.thing) (.ref er.text) = some false
  thing_broken : kitOne K (.ref er.thing) (.ref er.broken) = some false
theorem errOk {K : Frag} {mg : Str → Option Value} {er : Errs} (h : errTab K er = true) (h_kin : mg "KinError" = some (.ref er.kin)) (h_size : mg "NoSize" = some (.ref er.size)) (h_number : mg "NoNumber" = some (.ref er.number)) (h_thing : mg "NoThing" = some (.ref er.thing)) (h_family : mg "NoFamily" = some (.ref er.family)) (h_way : mg "NoWay" = some (.ref er.way)) (h_apart : mg "Apart" = some (.ref er.apart)) (h_mark : mg "NoMark" = some (.ref er.mark)) (h_text : mg "NoText" = some (.ref er.text)) (h_broken : mg "Broken" = some (.ref er.broken)) : ErrOk K mg er := by
  unfold errTab at h
  simp only [Bool.and_eq_true, beq_iff_eq] at h
  obtain ⟨⟨⟨⟨⟨⟨⟨⟨⟨⟨⟨⟨⟨⟨⟨⟨⟨⟨⟨⟨⟨⟨⟨⟨⟨⟨⟨⟨⟨⟨⟨⟨⟨⟨⟨⟨⟨⟨q0, q1⟩, q2⟩, q3⟩, q4⟩, q5⟩, q6⟩, q7⟩, q8⟩, q9⟩, q10⟩, q11⟩, q12⟩, q13⟩, q14⟩, q15⟩, q16⟩, q17⟩, q18⟩, q19⟩, q20⟩, q21⟩, q22⟩, q23⟩, q24⟩, q25⟩, q26⟩, q27⟩, q28⟩, q29⟩, q30⟩, q31⟩, q32⟩, q33⟩, q34⟩, q35⟩, q36⟩, q37⟩, q38⟩ := h
  exact ⟨h_kin, h_size, h_number, h_thing, h_family, h_way, h_apart, h_mark, h_text, h_broken, q0, excK_of q1, q2, q3, q4, q5, q6, q7, q8, q9, q10, q11, q12, q13, excK_of q14, q15, q16, q17, q18, q19, q20, q21, q22, q23, q24, q25, q26, excK_of q27, q28, q29, q30, q31, q32, q33, q34, q35, q36, q37, q38⟩
section
variable {X : Cx}
theorem call_isinstX : CallR X (.builtin "isinstance") (fun xs H Q => ∃ e c cv C b, xs = [.ref e, c] ∧ (∀ u, RelV c u → u = cv) ∧ H e = some (excO e (.ref C)) ∧ ExcK X.K C ∧ kitOne X.K (.ref C) cv = some b ∧ Q (.bl b) H) := by
  intro pins s σ H xs us Q I r h
  obtain ⟨e, c, cv, C, b, rfl, hcv, he, F, k, q⟩ := h
  obtain ⟨u, v, rfl, r1, r2⟩ := vals2 r
  rw [hcv v r2]
  cases (show u = Value.ref e from r1)
  obtain ⟨ix, _⟩ := (show ObjOk X.prog X.w H s.heap e (excO e (.ref C)) from I.hok e _ he)
  exact kia_one (kitx_exc F) I.kIn ix k (fun z => nomatch z) fun tk => ⟨.bl b, H, I.tok _, rfl, q⟩
theorem relRef {a : Addr} : ∀ u, RelV (.ref a) u → u = Value.ref a := fun _ h => h
theorem hu0 {A : Around} {k : Nat} (hr : Room k A) : A.units < cLine := Nat.lt_of_succ_lt (hu_of hr)
end
theorem bb_ValueError : bootBuiltins "ValueError" = some (.type "ValueError") := by decide +kernel
theorem eqL_one (t : Str) : eqL [.str t] [.str t] = true := by simp [eqL, eqV]
theorem ne_told {K : Frag} {t : Str} {p : Addr} {H1 : Hp} {σ : St} {Q' : VK} (hp : H1 p = some (.lst [.str t])) (q : ∀ H2, Same H1 H2 → Q' (.bl false) H2) :
    tLst (tCons (tC (.str t)) tNil) σ H1 (fun y H2 => rEqL K true (.ref p) y H2 Q') :=
  ⟨sz (n := 1) (by decide), fun l hl => ⟨p, l, _, _, rfl, rfl, SqL.of ((upd_ne (ne_of_none hp hl)).trans hp), SqL.of upd_same, rfl, rfl, by
    show Q' (.bl (!eqL [.str t] [.str t])) _
    rw [eqL_one]
    exact q _ (Same.new (Same.refl _) hl _)⟩⟩
end L2
namespace Ck
open PySem L2
end Ck

set_option Elab.async false
set_option linter.all false
set_option maxRecDepth 100000
set_option maxHeartbeats 4000000
/-! Own rules: methods with all that a caller asks of them, tried ones too; except without a name. -/
namespace L2
open PySem PySem.Spec PyProof.Rows
/-- a method of the text (or any def that is not called by its name), its promise, and how it is called -/
structure MDef (P : Program) (w : World) (K : PySem.W.Frag) (mg : Str → Option Value) (base : Heap) (ps : List Str) (k : Nat) (sp : Sp) (f : Addr) (fd : FuncData) : Prop where
  ok : FnOk P w K mg base (CX1 P w) k f fd ps sp
  b : Binds K fd ps []
section
variable {X : Cx} {C f : Addr} {fd : FuncData} {ps : List Str} {sp : Sp} {m : Str} {apos pos : Pos} {o e : Expr} {es : List Expr} {ta : TE} {t : TA} {j k : Nat}
theorem pmeth {pl : Sem Bool} (ho : PE X o ta) (c : Cls X.K C) (hm : Meth X.K C m f) (D : MDef X.prog X.w X.K X.mg X.base ps j sp f fd) (hr : Room k X.A) (ha : PA X (e :: es) t) (hjk : j ≤ k := by decide)
    (hst : starEach (e :: es) X.env = (false, eval e X.env) :: starEach es X.env := by rfl) (hpl : (backTo pos (starEach es X.env)).any (·.1) = false := by rfl)
    (ht : eval (.Call (.Attribute o m apos) (e :: es) [] pos) X.env = (do
      let ov ← eval o X.env
      standAt apos.atName
      let (f, first) ← holding [ov] (getMethod ov m pl)
      callWith pos f first (backTo pos (starEach (e :: es) X.env)) (backToKw pos (keywordEach [] X.env))) := by rfl) :
    PE X (.Call (.Attribute o m apos) (e :: es) [] pos) (tMeth C m sp [] E0 ta t) := pe_meth ho c hm D.ok (hr.mono hjk) D.b .nil passN ha hst hpl ht
theorem pmethT {E : XK} (T : Thr X E) {pl : Sem Bool} (ho : PE X o ta) (c : Cls X.K C) (hm : Meth X.K C m f) (D : MDef X.prog X.w X.K X.mg X.base ps j sp f fd) (hr : Room k X.A) (ha : PA X (e :: es) t) (hjk : j ≤ k := by decide)
    (hst : starEach (e :: es) X.env = (false, eval e X.env) :: starEach es X.env := by rfl) (hpl : (backTo pos (starEach es X.env)).any (·.1) = false := by rfl)
    (ht : eval (.Call (.Attribute o m apos) (e :: es) [] pos) X.env = (do
      let ov ← eval o X.env
      standAt apos.atName
      let (f, first) ← holding [ov] (getMethod ov m pl)
      callWith pos f first (backTo pos (starEach (e :: es) X.env)) (backToKw pos (keywordEach [] X.env))) := by rfl) :
    PE X (.Call (.Attribute o m apos) (e :: es) [] pos) (tMeth C m sp [] E ta t) := pe_meth ho c hm D.ok (hr.mono hjk) D.b .nil T.pass ha hst hpl ht
/-- a method that is tried -/
theorem px_meth {pl : Sem Bool} (ho : ∀ (pn' : List (Addr × Obj)) (xe' : Value → Shared → Prop), PE { X with pn := pn', xe := xe' } o ta) (c : Cls X.K C) (hm : Meth X.K C m f) (D : MDef X.prog X.w X.K X.mg X.base ps j sp f fd) (hr : Room k X.A)
    (ha : ∀ (pn' : List (Addr × Obj)) (xe' : Value → Shared → Prop), PA { X with pn := pn', xe := xe' } (e :: es) t) (hjk : j ≤ k := by decide)
    (hst : starEach (e :: es) X.env = (false, eval e X.env) :: starEach es X.env := by rfl) (hpl : (backTo pos (starEach es X.env)).any (·.1) = false := by rfl)
    (ht : eval (.Call (.Attribute o m apos) (e :: es) [] pos) X.env = (do
      let ov ← eval o X.env
      standAt apos.atName
      let (f, first) ← holding [ov] (getMethod ov m pl)
      callWith pos f first (backTo pos (starEach (e :: es) X.env)) (backToKw pos (keywordEach [] X.env))) := by rfl) :
    PEx X (.Call (.Attribute o m apos) (e :: es) [] pos) (fun E => tMeth C m sp [] E ta t) := by
  intro E σ pn' xe' hp pins s H Q I h
  refine PySem.W.methodCall_KW (pl := pl) (thn (ho pn' xe' pins s σ H _ I h) fun u s1 ⟨x, H1, I1, rx, a, dx, fs, ex, ea, l, q⟩ => ?_) ht
  subst ex
  obtain rfl : u = Value.ref a := rx
  refine getmeth_ok (X := { X with pn := pn', xe := xe' }) I1 ea c hm l ?_
  refine PySem.W.callWith_K (first := [.ref a]) (h₀ := X.base) I.ok.mod.kin hm.kp (thn (ha pn' xe' pos pins s1 σ H1 _ I1 q) fun us s2 ⟨vs, H2, I2, r, q2⟩ => ⟨I2.kIn, ?_⟩) hst hpl
  have q3 : sp (.ref a :: (vs ++ [])) H2 Q E := q2
  rw [List.append_nil] at q3
  exact run_at (X := { X with pn := pn', xe := xe' }) (us := .ref a :: us) (vs := .ref a :: vs) D.ok (hr.mono hjk) D.b hp I2 (.cons rfl r) q3
end
/-! ### C.m(self, ..): a base class's method by the class's name -/
structure ClsM (K : PySem.W.Frag) (C : Addr) (m : Str) (f : Addr) : Prop where
  hg : PySem.W.specialIn K (.ref C) "__getattribute__" = some (some (.builtin "type.__getattribute__"))
  rd : PySem.W.readsIn K C (.type "type") = true
  at_ : PySem.W.findCls K (.ref C) (.type "type") m = some (.val (.ref f))
  kp : PySem.W.keepIn K (.ref f) = true
section
variable {X : Cx} {C f : Addr} {fd : FuncData} {ps : List Str} {sp : Sp} {x m : Str} {p apos pos : Pos} {e : Expr} {es : List Expr} {t : TA} {j k : Nat}
theorem pcls {pl : Sem Bool} (hm : X.mg x = some (.ref C)) (M : ClsM X.K C m f) (D : MDef X.prog X.w X.K X.mg X.base ps j sp f fd) (hr : Room k X.A) (ha : PA X (e :: es) t) (hjk : j ≤ k := by decide) (hg : Gl X x := by rfl)
    (hdb : (x == ("__debug__" : Str)) = false := by decide) (hst : starEach (e :: es) X.env = (false, eval e X.env) :: starEach es X.env := by rfl) (hpl : (backTo pos (starEach es X.env)).any (·.1) = false := by rfl)
    (ht : eval (.Call (.Attribute (.Name x p) m apos) (e :: es) [] pos) X.env = (do
      let ov ← eval (.Name x p) X.env
      standAt apos.atName
      let (f, first) ← holding [ov] (getMethod ov m pl)
      callWith pos f first (backTo pos (starEach (e :: es) X.env)) (backToKw pos (keywordEach [] X.env))) := by rfl) :
    PE X (.Call (.Attribute (.Name x p) m apos) (e :: es) [] pos) (tCall sp [] E0 t) := by
  intro pins s σ H Q I h
  refine PySem.W.methodCall_KW (pl := pl) (ld_glob I hg hm ?_ hdb) ht
  refine PySem.W.method_cls I.kIn M.hg (PySem.W.cls_value I.kIn M.rd M.at_ rfl ?_)
  have I1 : Inv X pins σ H { s with toks := s.toks + 1 } := I.tok _
  refine PySem.W.callWith_K (first := []) (h₀ := X.base) I.ok.mod.kin M.kp (thn (ha pos pins _ σ H _ I1 h) fun us s2 ⟨vs, H2, I2, r, q2⟩ => ⟨I2.kIn, ?_⟩) hst hpl
  exact run_fn D.ok (hr.mono hjk) D.b .nil passN I2 r q2
end

section
variable {X : Cx} {C f : Addr} {fd : FuncData} {ps : List Str} {sp : Sp} {x : Str} {p pos : Pos} {j k : Nat}
/-- C(): a new object -/
theorem pmake0 (M : Mk X.K C f) (hm : X.mg x = some (.ref C)) (D : MDef X.prog X.w X.K X.mg X.base ps j sp f fd) (hr : Room k X.A) (hjk : j + 1 ≤ k := by decide) (hg : Gl X x := by rfl) (hdb : (x == ("__debug__" : Str)) = false := by decide) :
    PE X (.Call (.Name x p) [] [] pos) (tMake C sp [] E0 tNil) := pe_make0 M D.ok (hr.mono hjk) hg hm D.b .nil passN hdb
end
end L2
namespace L2
open PySem
/-! ### a def that calls itself: by a number that falls -/
noncomputable def below (N : Nat) (sp : Nat → Sp) : Sp := fun vs H Q E => ∃ m, m < N ∧ sp m vs H Q E
end L2

set_option Elab.async false
set_option linter.all false
set_option maxRecDepth 100000
set_option maxHeartbeats 4000000
/-! Own rules: == and != of lists and tuples within one another; is True, is False. -/
namespace L2
open PySem PySem.Spec PyProof.Rows
section
variable {X : Cx} {pins : List (Addr × Obj)} {σ : St} {H : Hp} {s : Shared}
/-- x is True, x is not True (or False) -/
theorem plain_bool {x : V} {u : Value} {c : Bool} (r : RelV x u) : plainIs u (.bool c) = true ∧ (u == Value.bool c) = decide (x = .bl c) := by
  cases x with
  | non => cases r; exact ⟨rfl, rfl⟩
  | bl b =>
    cases r
    refine ⟨rfl, ?_⟩
    by_cases e : b = c
    · subst e; simp
    · rw [decide_eq_false (fun z => e (by injection z))]
      exact beq_eq_false_iff_ne.mpr fun z => e (by injection z)
  | int i => obtain ⟨t, rfl⟩ := r; exact ⟨rfl, rfl⟩
  | str i => obtain ⟨t, rfl⟩ := r; exact ⟨rfl, rfl⟩
  | byt i => obtain ⟨t, rfl⟩ := r; exact ⟨rfl, rfl⟩
  | flt i => obtain ⟨t, rfl⟩ := r; exact ⟨rfl, rfl⟩
  | ref a => cases r; exact ⟨rfl, rfl⟩
  | ty n => cases r; exact ⟨rfl, rfl⟩
theorem op_isB : OpR X (compareOp .Is) (fun x y H Q => ∃ c, y = .bl c ∧ Q (.bl (decide (x = .bl c))) H) := by
  intro pins s σ H x y u v Q I ru rv h
  obtain ⟨c, rfl, q⟩ := h
  cases (show v = Value.bool c from rv)
  obtain ⟨p, e⟩ := plain_bool (c := c) ru
  refine wpAny_bind (wpAny_isSame_plain p (wpAny_pure ⟨.bl _, H, I, rfl, ?_⟩))
  rw [e]; exact q
end
end L2

set_option Elab.async false
set_option linter.all false
set_option maxRecDepth 100000
set_option maxHeartbeats 4000000
/-! Own rules: list.insert, list.remove, min and max of a list of ints, enumerate. -/
namespace L2
open PySem PySem.Spec PyProof.Rows
section
variable {X : Cx}
/-- min(xs), max(xs) of ints -/
theorem call_minL (hc : X.calm = true) : CallR X (.builtin "min") (fun xs H Q => ∃ p ns, xs = [.ref p] ∧ SqL X.K H p (ns.map V.int) ∧ ns ≠ [] ∧ ∀ M, M ∈ ns → (∀ a ∈ ns, M ≤ a) → Q (.int M) H) := by
  intro pins s σ H xs us Q I r h
  obtain ⟨p, ns, rfl, hl, hne, q⟩ := h
  obtain ⟨u, rfl, ru⟩ := vals1 r
  cases ru
  obtain ⟨its, r', pl, hz⟩ := I.list hl
  have hi : IntsAre its ns := intsAre_of r'
  obtain ⟨ys, e⟩ := hi.allInts.items
  have hns : ns = ys.toList.map (·.1) := by rw [← hi.numsOf, ← nums_intItems, ← e]
  have hsz : 0 < ys.size := by
    have := List.length_pos_iff.mpr hne
    rw [hns, List.length_map, Array.length_toList] at this
    exact this
  have hl' : s.heap.IsList p (intItems ys) := by rw [← e]; exact pl.isList
  refine min_intList (I.ok.hd hc) hl' hsz fun v h' tk hv hk => ?_
  obtain ⟨t, rfl⟩ := intItems_at hv
  obtain ⟨a1, a2⟩ := argBest_lt (numAt ys) (ys.size - 1)
  refine ⟨.int _, H, I.kept hk, ⟨t, rfl⟩, q _ ?_ fun a ha => ?_⟩
  · rw [hns, numAt_eq]; exact getD_mem (by rw [List.length_map, Array.length_toList]; omega)
  · rw [hns] at ha
    obtain ⟨j, hj, rfl⟩ := mem_getD ha
    rw [List.length_map, Array.length_toList] at hj
    rw [← numAt_eq]; exact a2 j (by omega)
end
/-! ### enumerate -/
section
variable {X : Cx} {pins : List (Addr × Obj)} {σ : St} {H : Hp} {s : Shared} {h' : Heap}
theorem Inv.trackO {e : Addr} {o' : HO} (I : Inv X pins σ H s) (o : Ours X pins H e) (new : ObjOk X.prog X.w (upd H e o') s.heap e o') : Inv X pins σ (upd H e o') s := by
  have ne : ∀ b u, H b = some u → b ≠ e := fun b u q z => by rw [z, o.free] at q; cases q
  refine ⟨I.ok, I.os, I.bare, ⟨I.base.keep, I.base.slot, fun b ob q n hx => ?_, I.base.there, fun b xs q => ?_, fun b ob u q => ?_, fun b ps q => ?_⟩, I.loc, I.cell, ?_, fun x c q => ?_, fun p hp => ?_, fun b u q => ?_, I.len⟩
  · rw [upd_ne (fun z => by rw [z, o.new] at q; cases q)]; exact I.base.free b ob q n hx
  · have := I.base.tups b xs q
    rw [upd_ne (ne _ _ this)]; exact this
  · have := I.base.frzs b ob u q
    rw [upd_ne (ne _ _ this)]; exact this
  · obtain ⟨m, z⟩ := I.base.tbls b ps q
    exact ⟨m, by rw [upd_ne (ne _ _ z)]; exact z⟩
  · rw [upd_ne (Ne.symm o.loc)]; exact I.free
  · rw [upd_ne (o.cell x c q)]; exact I.freeC x c q
  · obtain ⟨z, n, r⟩ := I.pin p hp
    exact ⟨z, by rw [upd_ne (o.pin p hp)]; exact n, r⟩
  · by_cases z : b = e
    · subst z; rw [upd_same] at q; cases q; exact new
    · rw [upd_ne z] at q
      exact (I.hok b u q).stay (fun _ _ _ x => x) (fun c x => by rw [upd_ne (ne _ _ x)]; exact x) fun c xs x => by rw [upd_ne (ne _ _ x)]; exact x
theorem Inv.turned2 {t' : Nat} {e it : Addr} (I : Inv X pins σ H s) (k : ∀ b o, b ≠ e → b ≠ it → s.heap.get? b = some o → h'.get? b = some o) (he : ∃ o, h'.get? e = some o) (hi : ∃ o, h'.get? it = some o) (f1 : FpOk X pins H e) (f2 : FpOk X pins H it) :
    Inv X pins σ H { s with heap := h', toks := t' } := by
  have nit : ∀ b u, H b = some u → b ≠ e ∧ b ≠ it := fun b u q => ⟨fun z => (by rw [z, f1.1] at q; cases q), fun z => (by rw [z, f2.1] at q; cases q)⟩
  have sp : ∀ b, b ∉ [e, it] → b ≠ e ∧ b ≠ it := fun b hb => ⟨fun z => hb (by simp [z]), fun z => hb (by simp [z])⟩
  refine I.step (g' := s.gens) (d' := s.drawn) (ch := [e, it]) (fun b hb => ?_) (fun b o _ _ hc q _ => k b o (sp b hc).1 (sp b hc).2 q) (fun b o _ _ hc q _ => ⟨o.slots, k b o (sp b hc).1 (sp b hc).2 q⟩) (fun _ _ _ _ n => n)
    (fun b o hc q => ⟨o, k b o (sp b hc).1 (sp b hc).2 q⟩) (fun _ _ q => q) (fun _ _ _ q => q) (fun b ps q => ⟨#[], by rw [q]; simp⟩) (fun m hm => ?_) (fun b u q => ?_) I.bare
  · rcases List.mem_cons.mp hb with z | z
    · rw [z]; exact ⟨f1.2.2.2.1, f1.2.1, f1.2.2.2.2.1, f1.2.2.2.2.2⟩
    · rw [show b = it by simpa using z]; exact ⟨f2.2.2.2.1, f2.2.1, f2.2.2.2.2.1, f2.2.2.2.2.2⟩
  · obtain ⟨o, es, ep, ho, r⟩ := hm
    exact ⟨o, es, ep, k _ o (Ne.symm f1.2.1) (Ne.symm f2.2.1) ho, r⟩
  · refine (I.hok b u q).stay (fun c v hc q' => ?_) (fun _ q => q) fun _ _ q => q
    have : c ≠ e ∧ c ≠ it := by
      rcases hc with z | z
      · rw [z]; exact nit b u q
      · exact nit c _ z
    exact k c v this.1 this.2 q'
end
/-- enumerate of the list at l -/
noncomputable def Ite (K : PySem.W.Frag) (l : Addr) : It :=
  ⟨fun i H => ∃ xs x, SqL K H l xs ∧ xs[i]? = some x, fun i H v H' => ∃ T x, H T = none ∧ (∀ xs, SqL K H l xs → xs[i]? = some x) ∧ v = .ref T ∧ H' = upd H T (.tup [.int i, x]), fun i H => ∃ xs, SqL K H l xs ∧ xs.length ≤ i⟩
theorem turn_enum {P : Program} {w : World} {K : PySem.W.Frag} {elts : List Expr} {k0 : Nat} {tp : Pos} (e it l : Addr) (hei : e ≠ it) :
    Turn P w K (.Tuple elts k0 tp) (Ite K l) [e, it] e (fun i h => (∃ old, IsEnum h e it i old) ∧ h.IsListIter it l i) where
  mem := by simp
  obj := fun i h st b hb => by
    obtain ⟨⟨old, he⟩, o, ho, c, d⟩ := st
    rcases List.mem_cons.mp hb with z | z
    · rw [z]
      exact ⟨_, he, fun v z => by
        have z' : Data.fields _ = Data.cell v := z
        cases z'⟩
    · rw [show b = it by simpa using z]
      exact ⟨o, ho, fun v z => by rw [d] at z; cases z⟩
  keep := fun i h h' st k => ⟨let ⟨old, he⟩ := st.1; ⟨old, k e (by simp) _ he⟩, st.2.at fun o q => k it (by simp) o q⟩
  item := by
    intro X hP hw hK hc i pins s σ H E I hf st hg
    subst hP hw hK
    obtain ⟨xs, x, hq, hx⟩ := hg
    obtain ⟨its, rv, p, hz⟩ := I.list hq
    obtain ⟨u, hu, ru⟩ := rv.get hx
    obtain ⟨⟨old, he⟩, hit⟩ := st
    have fe := hf e (by simp)
    have fi := hf it (by simp)
    refine wpAny_pyNext_enum_item he hit p.isList (x := u) (by simpa using hu) hei fun h1 ho hit1 hT hsz hk => ?_
    refine ⟨_, rfl, wpAny_letOwnedTupleGo_enum ho fun h2 he2 sb => ?_⟩
    have nT : s.heap.get? s.heap.objs.size = none := Heap.get?_none_of_le (Nat.le_refl _)
    have elt : e < s.heap.objs.size := Heap.lt_size he
    have ilt : it < s.heap.objs.size := by obtain ⟨_, q, _⟩ := hit; exact Heap.lt_size q
    have hit2 : h2.IsListIter it l (i + 1) := hit1.at fun o q => (sb.2 it (Ne.symm hei)).trans q
    have k2 : ∀ b o, b ≠ e → b ≠ it → s.heap.get? b = some o → h2.get? b = some o := fun b o b1 b2 q => (sb.2 b b1).trans (hk b o b1 b2 q)
    have I2 : Inv X pins σ H { s with heap := h2, toks := s.toks + 1 } := I.turned2 k2 ⟨_, he2⟩ (by obtain ⟨o, q, _⟩ := hit2; exact ⟨o, q⟩) fe fi
    have oT : Ours X pins H s.heap.objs.size := by
      have fT : FpOk X pins H s.heap.objs.size := I.fpOk (Nat.le_refl _) (I.hok.fresh (Nat.le_refl _))
      exact ⟨Heap.get?_none_of_le I.sz, fT.1, fT.2.1, fT.2.2.2.2.1, fT.2.2.2.2.2⟩
    have hT2 : h2.get? s.heap.objs.size = some { cls := .type "tuple", data := .seq #[.int i s.toks, u] } := (sb.2 _ (Nat.ne_of_gt elt)).trans hT
    have I3 := I2.trackO (o' := .tup [.int i, x]) oT ⟨sz (n := 2) (by decide), [.int i s.toks, u], .cons ⟨_, rfl⟩ (.cons ru .nil), _, hT2, rfl, _, rfl⟩
    refine ⟨.ref s.heap.objs.size, _, I3, rfl, ⟨_, x, oT.free, fun ys hy => by rw [I.list_inj hy hq]; exact hx, rfl, rfl⟩, ⟨⟨_, by simpa using he2⟩, hit2⟩, fun b hb => ?_⟩
    rcases List.mem_cons.mp hb with z | z
    · rw [z, upd_ne (Nat.ne_of_lt elt)]; exact fe.1
    · rw [show b = it by simpa using z, upd_ne (Nat.ne_of_lt ilt)]; exact fi.1
  done := by
    intro X hP hw hK hc i pins s σ H E I hf st hg
    subst hP hw hK
    obtain ⟨xs, hq, hx⟩ := hg
    obtain ⟨its, rv, p, hz⟩ := I.list hq
    obtain ⟨⟨old, he⟩, hit⟩ := st
    have hl := rv.length
    obtain ⟨f0, f1, f2, f3, f4, f5⟩ := hf it (by simp)
    refine wpAny_pyNext_enum_end (I.ok.hd hc) he hit p.isList (Array.getElem?_eq_none (by simp; omega)) fun h2 eb => ⟨rfl, ?_⟩
    exact I.turned (t' := s.toks) (fun b o hb q => eb b o hb q) f0 f1 f3 f4 f5
  self := fun _ _ _ _ _ st h => by
    obtain ⟨⟨old, he⟩, _⟩ := st
    exact wpAny_pyIter_enum he h
noncomputable def iEnum (K : PySem.W.Frag) (ta : TA) : TI := fun σ H R => ta σ H fun vs H1 => ∃ l, vs = [.ref l] ∧ (∃ xs, SqL K H1 l xs) ∧ R (Ite K l) H1
section
variable {X : Cx}
theorem pi_enum {elts : List Expr} {k0 : Nat} {tp : Pos} {a : Expr} {ta : TA} {p pos : Pos} (hg : Gl X "enumerate") (hm : X.mg "enumerate" = none) (ha : PA X [a] ta) (hs : starEach [a] X.env = [(false, eval a X.env)] := by rfl) :
    PI X (.Tuple elts k0 tp) (.Call (.Name "enumerate" p) [a] [] pos) (iEnum X.K ta) := by
  intro pins s σ H R I h
  refine Call_ (ld_blt I hg hm boot_enumerate (PyProof.Rows.callWith_type1 (thn (ha pos pins s σ H _ I h) fun us s1 ⟨vs, H1, I1, r1, q1⟩ => ?_) hs rfl))
  obtain ⟨l, rfl, ⟨xs, hq⟩, q⟩ := q1
  obtain ⟨u, rfl, ru⟩ := vals1 r1
  cases ru
  obtain ⟨its, rv, pl, hz⟩ := I1.list hq
  refine call_enumerate_list pl.isList fun h2 he hit hsz hk => ?_
  have I2 : Inv X pins σ H1 { s1 with heap := h2 } := I1.kept (t' := s1.toks) hk
  refine wpAny_pyIter_enum he ⟨_, [s1.heap.objs.size + 1, s1.heap.objs.size], _, _, H1, rfl, I2, turn_enum _ s1.heap.objs.size l (Nat.succ_ne_self _), ⟨⟨_, he⟩, hit⟩, fun b hb => ?_, q⟩
  rcases List.mem_cons.mp hb with z | z
  · rw [z]; exact I1.fpOk (Nat.le_succ _) (I1.hok.fresh (Nat.le_succ _))
  · rw [show b = s1.heap.objs.size by simpa using z]; exact I1.fpOk (Nat.le_refl _) (I1.hok.fresh (Nat.le_refl _))
/-- for k, x in enumerate(xs): the list stays as it is -/
theorem for_enum {K : PySem.W.Frag} {l : Addr} {xs : List V} {g : TG} {tb : TS} {D : Ends} {σ : St} {H : Hp} (Pv : Nat → St → Hp → Prop) (h0 : Pv 0 σ H) (hl : ∀ i σ H, i ≤ xs.length → Pv i σ H → SqL K H l xs)
    (hs : ∀ i x σ H T, xs[i]? = some x → Pv i σ H → H T = none → g (.ref T) σ (upd H T (.tup [.int i, x])) fun σ2 H2 => tb { D with nx := Pv (i + 1), ct := Pv (i + 1), bk := D.nx } σ2 H2) (hd : ∀ σ H, Pv xs.length σ H → D.nx σ H) :
    ∃ W : Nat → Nat → St → Hp → Prop, (∃ m, W 0 m σ H) ∧ ∀ i m σ H, W i m σ H →
      ((Ite K l).stop i H ∧ D.nx σ H) ∨ ((Ite K l).go i H ∧ ∃ N : St → Hp → Prop, (∀ σ' H', N σ' H' → ∃ m', m' < m ∧ W (i + 1) m' σ' H') ∧ ∀ x H', (Ite K l).yld i H x H' → g x σ H' fun σ2 H2 => tb { D with nx := N, ct := N, bk := D.nx } σ2 H2) := by
  refine ⟨fun i m σ H => m = xs.length - i ∧ i ≤ xs.length ∧ Pv i σ H, ⟨xs.length, by simp, Nat.zero_le _, h0⟩, ?_⟩
  rintro i m σ H ⟨rfl, hi, p⟩
  have q := hl i σ H hi p
  by_cases hlt : i < xs.length
  · refine .inr ⟨⟨xs, _, q, List.getElem?_eq_getElem hlt⟩, Pv (i + 1), fun σ' H' p' => ⟨xs.length - (i + 1), by omega, rfl, hlt, p'⟩, fun v H' y => ?_⟩
    obtain ⟨T, x, nT, hx, rfl, rfl⟩ := y
    exact hs i x σ H T (hx xs q) p nT
  · have e : i = xs.length := by omega
    subst e
    exact .inl ⟨⟨xs, q, Nat.le_refl _⟩, hd σ H p⟩
end
end L2

set_option Elab.async false
set_option linter.all false
set_option maxRecDepth 100000
set_option maxHeartbeats 4000000
/-! Lists and tuples of ints within one another, as they lie in the heap. -/
namespace Ck
open PySem L2
inductive Tree where
  | int (i : Int)
  | lst (l : List Tree)
  | tup (l : List Tree)
mutual
noncomputable def Rep (H : Hp) : Tree → V → Prop
  | .int i, v => v = .int i
  | .lst ts, v => ∃ a xs, v = .ref a ∧ H a = some (.lst xs) ∧ ts.length ≤ 1000000 ∧ RepL H ts xs
  | .tup ts, v => ∃ a xs, v = .ref a ∧ H a = some (.tup xs) ∧ ts.length ≤ 1000000 ∧ RepL H ts xs
noncomputable def RepL (H : Hp) : List Tree → List V → Prop
  | [], xs => xs = []
  | t :: ts, xs => ∃ v vs, xs = v :: vs ∧ Rep H t v ∧ RepL H ts vs
end
mutual
noncomputable def dep : Tree → Nat
  | .int _ => 0
  | .lst ts => depL ts + 1
  | .tup ts => depL ts + 1
noncomputable def depL : List Tree → Nat
  | [] => 0
  | t :: ts => max (dep t) (depL ts)
end
mutual
theorem Rep.same {H H' : Hp} (s : Same H H') : ∀ (t : Tree) {v : V}, Rep H t v → Rep H' t v
  | .int i, v, h => by unfold Rep at h ⊢; exact h
  | .lst ts, v, h => by
    unfold Rep at h ⊢
    obtain ⟨a, xs, e, ha, hl, r⟩ := h
    exact ⟨a, xs, e, s _ _ ha, hl, RepL.same s ts r⟩
  | .tup ts, v, h => by
    unfold Rep at h ⊢
    obtain ⟨a, xs, e, ha, hl, r⟩ := h
    exact ⟨a, xs, e, s _ _ ha, hl, RepL.same s ts r⟩
theorem RepL.same {H H' : Hp} (s : Same H H') : ∀ (ts : List Tree) {xs : List V}, RepL H ts xs → RepL H' ts xs
  | [], xs, h => by unfold RepL at h ⊢; exact h
  | t :: ts, xs, h => by
    unfold RepL at h ⊢
    obtain ⟨v, vs, e, r, rs⟩ := h
    exact ⟨v, vs, e, Rep.same s t r, RepL.same s ts rs⟩
end
/-! ### lists of pairs -/
noncomputable abbrev Pair := Int × Int
end Ck
namespace L2
open PySem
end L2

set_option Elab.async false
set_option linter.all false
set_option maxRecDepth 100000
set_option maxHeartbeats 4000000
/-! Numbers laid on a pile and taken off it; rows of ints as trees. -/
namespace Ck
open PySem L2
theorem cutV_from (xs : List V) (k : Nat) : cutV xs (some (k : Int)) none = xs.drop k := by
  unfold cutV
  rw [HT.sIx_nat, HT.sIx_none]
  rw [List.take_of_length_le (by rw [List.length_drop]; omega)]
  by_cases h : k ≤ xs.length
  · rw [show min k xs.length = k by omega]
  · rw [List.drop_eq_nil_of_le (show xs.length ≤ k by omega), List.drop_eq_nil_of_le (by omega)]
theorem iteNN {c A B : Prop} [Decidable c] (hc : ¬ c) (h : A) : if (!decide c) = true then A else B := by
  rw [decide_eq_false hc]
  exact iteT h
end Ck

set_option Elab.async false
set_option linter.all false
set_option maxRecDepth 100000
set_option maxHeartbeats 4000000
/-! Own rules: list.index; a comprehension whose turns write to the heap; slices with two ends. -/
namespace L2
open PySem PySem.Spec PyProof.Rows PySem.SeqAt
section
variable {X : Cx}
theorem pg_tupK {K : PySem.W.Frag} {es : List Expr} {k : Nat} {t : TGs} {n : Nat} {pos : Pos} (hK : X.K = K) (hc : X.calm = true) (h : PGs X es t)
    (hn : (assignEach es X.env).length = n := by rfl) (hst : (assignEach es X.env).findIdx? (·.1) = none := by rfl) : PG X (.Tuple es k pos) (gTup K n t) := by
  subst hK
  exact pg_tup hc h hn hst
/-- over a list that stays; the turns may write to the heap and leave items out -/
theorem comp_walk {K : PySem.W.Frag} {a : Addr} {xs : List V} {g : TG} {tt : TT} {te : TE} {σ0 : St} {H : Hp} {D : Addr} {Q : VK} (Pv : Nat → List V → Hp → Prop) (hz : xs.length ≤ sizeLine)
    (h0 : Pv 0 [] (upd H D (.lst []))) (hl : ∀ i ys H', i ≤ xs.length → Pv i ys H' → SqL K H' a xs ∧ ys.length ≤ i)
    (hs : ∀ (i : Nat) (x : V) (ys : List V) (H' : Hp) (R : VK) (R0 : Hp → Prop), xs[i]? = some x → Pv i ys H' → (∀ v H3, H3 D = some (.lst ys) → Pv (i + 1) (ys ++ [v]) (upd H3 D (.lst (ys ++ [v]))) → R v H3) → (∀ H3, Pv (i + 1) ys H3 → R0 H3) →
      g x σ0 H' fun σ2 H2 => Ext σ0 σ2 ∧ tt σ2 H2 fun b H3 => if b = true then te σ2 H3 R else R0 H3)
    (hq : ∀ ys H', Pv xs.length ys H' → Q (.ref D) H') :
    CompW (Itl K a) g tt te σ0 D Q H := by
  refine ⟨fun i m ys H' => m = xs.length - i ∧ i ≤ xs.length ∧ Pv i ys H', ⟨xs.length, by simp, Nat.zero_le _, h0⟩, ?_⟩
  rintro i m ys H' ⟨rfl, hi, p⟩
  obtain ⟨sq, ly⟩ := hl i ys H' hi p
  by_cases hlt : i < xs.length
  · refine .inr ⟨⟨xs, xs[i], sq, by simp [hlt]⟩, fun x H'' y => ?_⟩
    obtain ⟨e, y⟩ := y
    subst e
    have ex := y xs sq
    refine hs i x ys _ _ _ ex p (fun v H3 hD p' => ⟨hD, by omega, xs.length - (i + 1), by omega, rfl, hlt, p'⟩) fun H3 p' => ⟨xs.length - (i + 1), by omega, rfl, hlt, p'⟩
  · have e : i = xs.length := by omega
    subst e
    exact .inl ⟨⟨xs, sq, Nat.le_refl _⟩, hq ys H' p⟩
end
end L2
namespace Ck
open PySem L2
end Ck
namespace Ck
open PySem L2
/-- the fields of a family -/
structure Flds (fs : List (Str × V)) (w : Str) (l : Int) : Prop where
  word : fs.lookup ("word" : Str) = some (.str w)
  least : fs.lookup ("least" : Str) = some (.int l)
  no : ∀ m : Str, m ≠ ("word" : Str) → m ≠ ("least" : Str) → fs.lookup m = none
theorem flds_mk (w : Str) (l : Int) : Flds (putF ("least" : Str) (.int l) (putF ("word" : Str) (.str w) [])) w l :=
  ⟨by rw [lookup_putF, if_neg (by decide), lookup_putF, if_pos rfl], by rw [lookup_putF, if_pos rfl], fun m a b => by rw [lookup_putF, if_neg b, lookup_putF, if_neg a]; rfl⟩
/-! ### pairs raised -/
noncomputable def up (d : Int) (p : Pair) : Pair := (p.1 + d, p.2 + d)
end Ck
namespace Ck
open PySem L2
theorem flat_ints (ns : List Int) : (ns.map V.int).all flatV = true := by
  rw [List.all_eq_true]
  intro x hx
  obtain ⟨n, _, rfl⟩ := List.mem_map.mp hx
  rfl
end Ck
namespace Ck
open PySem L2
end Ck

set_option Elab.async false
set_option linter.all false
set_option maxRecDepth 100000
set_option maxHeartbeats 4000000
/-! Own rules: sorted of ints (fewer than 64), in and not in, all of truths, a comprehension over enumerate. -/
namespace L2
open PySem PySem.Spec PyProof.Rows
theorem bb_sorted : bootBuiltins "sorted" = some (.builtin "sorted") := by decide +kernel
theorem bb_all : bootBuiltins "all" = some (.builtin "all") := by decide +kernel
theorem vals_intsA : ∀ {us : List Value} {ns : List Int}, IntsAre us ns → Vals (ns.map V.int) us
  | _, _, .nil => .nil
  | _, _, .cons n t h => .cons ⟨t, rfl⟩ (vals_intsA h)
section
variable {X : Cx}
theorem call_sorted : CallR X (.builtin "sorted") (fun xs H Q => ∃ (p : Addr) (ns : List Int), xs = [.ref p] ∧ SqL X.K H p (ns.map V.int) ∧ ns.length < 64 ∧ ∀ (q : Addr) (ms : List Int), H q = none → ms.Perm ns → ms.Pairwise (· ≤ ·) → Q (.ref q) (upd H q (.lst (ms.map V.int)))) := by
  intro pins s σ H xs us Q I r h
  obtain ⟨p, ns, rfl, hl, h64, q⟩ := h
  obtain ⟨u, rfl, ru⟩ := vals1 r
  cases ru
  obtain ⟨its, r', pl, hz⟩ := I.list hl
  have hi : IntsAre its ns := intsAre_of r'
  refine sorted_ints pl.isList hi (by rw [hi.length]; exact h64) fun out ms ho hp hs => ?_
  obtain ⟨e, he⟩ := sortedAll_at s.heap its out
  have lm : (ms.map V.int).length ≤ sizeLine := by rw [List.length_map, hp.length_eq]; exact sz (by omega)
  exact ⟨.ref _, _, I.laid (t' := s.toks) (o := .lst (ms.map V.int)) (fun b u e => sortedAll_old e) (Nat.le_succ _) ⟨lm, out.toList, e, vals_intsA ho, by simpa [seqObj] using he⟩, rfl, q _ ms (I.hok.fresh (Nat.le_succ _)) hp hs⟩
theorem any_eq (k : Int) : ∀ ns : List Int, ns.any (· == k) = decide (k ∈ ns)
  | [] => by simp
  | n :: ns => by
    rw [List.any_cons, any_eq k ns]
    by_cases h : n = k
    · subst h; simp
    · have h' : ¬ k = n := fun z => h z.symm
      simp [h, h']
theorem op_notin : OpR X (compareOp .NotIn) (fun x y H Q => ∃ (k : Int) (p : Addr) (ns : List Int), x = .int k ∧ y = .ref p ∧ SqL X.K H p (ns.map V.int) ∧ Q (.bl (!decide (k ∈ ns))) H) := by
  intro pins s σ H x y u v Q I ru rv h
  obtain ⟨k, p, ns, rfl, rfl, hl, q⟩ := h
  obtain ⟨t, rfl⟩ := (show ∃ t, u = Value.int k t from ru)
  cases rv
  obtain ⟨its, r', pl, hz⟩ := I.list hl
  refine notin_list_ints pl.isList (intsAre_of r') ⟨.bl _, H, I, rfl, ?_⟩
  rw [any_eq]; exact q
theorem vals_bools {bs : List Bool} : ∀ {us : List Value}, Vals (bs.map V.bl) us → us = bs.map Value.bool := by
  induction bs with
  | nil => intro us r; rw [List.map_nil] at r; cases r; rfl
  | cons b bs ih =>
    intro us r
    rw [List.map_cons] at r
    cases r with
    | cons h t => rw [ih t, List.map_cons]; cases (show _ = Value.bool b from h); rfl
theorem all_range (bs : List Bool) : (List.range bs.length).all (fun i => bs.getD i false) = bs.all id := by
  induction bs with
  | nil => rfl
  | cons b bs ih =>
    rw [List.length_cons, List.range_succ_eq_map, List.all_cons, List.all_map, List.all_cons]
    have : ((fun i => (b :: bs).getD i false) ∘ Nat.succ) = fun i => bs.getD i false := by funext i; rfl
    rw [this, ih]
    rfl
theorem call_all (hc : X.calm = true) : CallR X (.builtin "all") (fun xs H Q => ∃ (p : Addr) (bs : List Bool), xs = [.ref p] ∧ SqL X.K H p (bs.map V.bl) ∧ Q (.bl (bs.all id)) H) := by
  intro pins s σ H xs us Q I r h
  obtain ⟨p, bs, rfl, hl, q⟩ := h
  obtain ⟨u, rfl, ru⟩ := vals1 r
  cases ru
  obtain ⟨its, r', pl, hz⟩ := I.list hl
  have ei := vals_bools r'
  have hlt : p < s.heap.objs.size := by obtain ⟨_, e, _⟩ := pl.isList; exact Heap.lt_size e
  refine call_all_walk (wpAny_pyIter_list pl.isList ⟨_, _, _, _, _, _, fun i => bs.getD i false, rfl, Walks.list (A := X.A.in1) (I.ok.hd hc) _ p (Nat.ne_of_lt hlt) its.toArray, ⟨⟨_, Heap.get?_push_size _ rfl, rfl, rfl⟩, pl.isList.push _⟩, ?_, fun h' tk hk => ⟨.bl _, H, I.kept (old_kept hk), rfl, ?_⟩⟩)
  · intro i v s' Q' E' hP hQ
    have hb : bs[i]? = some (bs.getD i false) ∧ v = .bool (bs.getD i false) := by
      have hP' : its[i]? = some v := by simpa using hP
      rw [ei, List.getElem?_map] at hP'
      cases hb : bs[i]? with
      | none => rw [hb] at hP'; cases hP'
      | some b =>
        rw [hb] at hP'
        have e1 : bs.getD i false = b := by rw [List.getD_eq_getElem?_getD, hb]; rfl
        rw [e1]
        exact ⟨rfl, (Option.some.inj hP').symm⟩
    rw [hb.2]
    exact wpAny_truthy_bool hQ
  · have e1 : its.toArray.size = bs.length := by rw [ei]; simp
    rw [e1, all_range]
    exact q
/-- over the pairs of enumerate, the list stays -/
theorem comp_enum {K : PySem.W.Frag} {a : Addr} {xs : List V} {g : TG} {tt : TT} {te : TE} {σ0 : St} {H : Hp} {D : Addr} {Q : VK} (Pv : Nat → List V → Hp → Prop) (hz : xs.length ≤ sizeLine)
    (h0 : Pv 0 [] (upd H D (.lst []))) (hl : ∀ i ys H', i ≤ xs.length → Pv i ys H' → SqL K H' a xs ∧ ys.length ≤ i)
    (hs : ∀ (i : Nat) (x : V) (ys : List V) (H' : Hp) (T : Addr) (R : VK) (R0 : Hp → Prop), xs[i]? = some x → Pv i ys H' → H' T = none → (∀ v H3, H3 D = some (.lst ys) → Pv (i + 1) (ys ++ [v]) (upd H3 D (.lst (ys ++ [v]))) → R v H3) → (∀ H3, Pv (i + 1) ys H3 → R0 H3) →
      g (.ref T) σ0 (upd H' T (.tup [.int i, x])) fun σ2 H2 => Ext σ0 σ2 ∧ tt σ2 H2 fun b H3 => if b = true then te σ2 H3 R else R0 H3)
    (hq : ∀ ys H', Pv xs.length ys H' → Q (.ref D) H') :
    CompW (Ite K a) g tt te σ0 D Q H := by
  refine ⟨fun i m ys H' => m = xs.length - i ∧ i ≤ xs.length ∧ Pv i ys H', ⟨xs.length, by simp, Nat.zero_le _, h0⟩, ?_⟩
  rintro i m ys H' ⟨rfl, hi, p⟩
  obtain ⟨sq, ly⟩ := hl i ys H' hi p
  by_cases hlt : i < xs.length
  · refine .inr ⟨⟨xs, _, sq, List.getElem?_eq_getElem hlt⟩, fun x H'' y => ?_⟩
    obtain ⟨T, w, nT, hw, rfl, rfl⟩ := y
    refine hs i w ys _ T _ _ (hw xs sq) p nT (fun v H3 hD p' => ⟨hD, by omega, xs.length - (i + 1), by omega, rfl, hlt, p'⟩) fun H3 p' => ⟨xs.length - (i + 1), by omega, rfl, hlt, p'⟩
  · have e : i = xs.length := by omega
    subst e
    exact .inl ⟨⟨xs, sq, Nat.le_refl _⟩, hq ys H' p⟩
end
end L2
namespace Ck
open PySem L2
theorem eqL_self : ∀ ns : List Int, eqL (ns.map V.int) (ns.map V.int) = true
  | [] => rfl
  | n :: ns => by
    rw [List.map_cons]
    show (eqV (.int n) (.int n) && eqL (ns.map V.int) (ns.map V.int)) = true
    rw [eqL_self ns, show eqV (.int n) (.int n) = true from decide_eq_true rfl]
    rfl
end Ck

set_option Elab.async false
set_option linter.all false
set_option maxRecDepth 100000
set_option maxHeartbeats 4000000
/-! Rows of cars: counted, sorted, parked. -/
namespace Ck
open PySem L2
/-- enough wishes are small enough -/
structure Car (ns : List Int) : Prop where
  pos : ∀ x ∈ ns, 0 ≤ x
  few : ∀ j : Nat, j < ns.length → j + 1 ≤ ns.countP (fun x => decide (x ≤ (j : Int)))
theorem Car.perm {ns ms : List Int} (h : Car ns) (p : ms.Perm ns) : Car ms :=
  ⟨fun x hx => h.pos x (p.mem_iff.mp hx), fun j hj => by rw [p.countP_eq]; exact h.few j (by rw [← p.length_eq]; exact hj)⟩
theorem Car.sorted {ms : List Int} (h : Car ms) (s : ms.Pairwise (· ≤ ·)) {i : Nat} {x : Int} (e : ms[i]? = some x) : x ≤ (i : Int) := by
  obtain ⟨hi, hx⟩ := List.getElem?_eq_some_iff.mp e
  by_cases hle : x ≤ (i : Int)
  · exact hle
  · have h1 := h.few i hi
    have h2 : ms.countP (fun x => decide (x ≤ (i : Int))) ≤ i := by
      have e1 : ms.countP (fun x => decide (x ≤ (i : Int))) = (ms.take i).countP (fun x => decide (x ≤ (i : Int))) + (ms.drop i).countP (fun x => decide (x ≤ (i : Int))) := by
        rw [← List.countP_append, List.take_append_drop]
      have e2 : (ms.drop i).countP (fun x => decide (x ≤ (i : Int))) = 0 := by
        rw [List.countP_eq_zero]
        intro y hy
        rw [List.drop_eq_getElem_cons hi] at hy
        have s2 : (ms.drop i).Pairwise (· ≤ ·) := s.sublist (List.drop_sublist _ _)
        rw [List.drop_eq_getElem_cons hi, List.pairwise_cons] at s2
        rcases List.mem_cons.mp hy with z | z
        · simp; omega
        · have := s2.1 y z
          simp; omega
      have e3 := List.countP_le_length (p := fun x => decide (x ≤ (i : Int))) (l := ms.take i)
      rw [List.length_take] at e3
      omega
    omega
end Ck

set_option Elab.async false
set_option linter.all false
set_option maxRecDepth 100000
set_option maxHeartbeats 4000000
/-! Turned round a ring, just one row of wishes is a row of cars. -/
namespace Ck
open PySem L2
noncomputable def rot (N s : Int) (ws : List Int) : List Int := ws.map fun w => (w + s) % N
theorem rot_len (N s : Int) (ws : List Int) : (rot N s ws).length = ws.length := List.length_map _
theorem countP_le_add (p q r : Int → Bool) : ∀ l : List Int, (∀ x ∈ l, r x = true → p x = true ∨ q x = true) → l.countP r ≤ l.countP p + l.countP q
  | [], _ => Nat.zero_le _
  | x :: l, h => by
    have ih := countP_le_add p q r l fun y hy => h y (List.mem_cons_of_mem _ hy)
    have h0 := h x (List.mem_cons_self ..)
    rw [List.countP_cons, List.countP_cons, List.countP_cons]
    cases hr : r x with
    | false => simp; omega
    | true =>
      rcases h0 hr with z | z
      · rw [z]; simp; omega
      · rw [z]; simp; omega
theorem countP_add_le (p q r : Int → Bool) : ∀ l : List Int, (∀ x ∈ l, p x = true → r x = true ∧ q x = false) → (∀ x ∈ l, q x = true → r x = true) → l.countP p + l.countP q ≤ l.countP r
  | [], _, _ => Nat.zero_le _
  | x :: l, h, h' => by
    have ih := countP_add_le p q r l (fun y hy => h y (List.mem_cons_of_mem _ hy)) fun y hy => h' y (List.mem_cons_of_mem _ hy)
    have h0 := h x (List.mem_cons_self ..)
    have h1 := h' x (List.mem_cons_self ..)
    rw [List.countP_cons, List.countP_cons, List.countP_cons]
    cases hp : p x with
    | true =>
      obtain ⟨a, b⟩ := h0 hp
      rw [a, b]; simp; omega
    | false =>
      cases hq : q x with
      | true => rw [h1 hq]; simp; omega
      | false => simp; omega
theorem countP_not (p : Int → Bool) : ∀ l : List Int, l.countP p + l.countP (fun x => !p x) = l.length
  | [] => rfl
  | x :: l => by
    have ih := countP_not p l
    rw [List.countP_cons, List.countP_cons, List.length_cons]
    cases p x <;> simp <;> omega
/-- the first least one -/
theorem first_least (f : Nat → Int) : ∀ m : Nat, ∃ t, t ≤ m ∧ (∀ j, j ≤ m → f t ≤ f j) ∧ ∀ j, j < t → f t < f j
  | 0 => ⟨0, Nat.le_refl _, fun j hj => by rw [show j = 0 by omega]; exact Int.le_refl _, fun j hj => absurd hj (Nat.not_lt_zero _)⟩
  | m + 1 => by
    obtain ⟨t, h1, h2, h3⟩ := first_least f m
    by_cases h : f (m + 1) < f t
    · refine ⟨m + 1, Nat.le_refl _, fun j hj => ?_, fun j hj => ?_⟩
      · by_cases e : j = m + 1
        · rw [e]; exact Int.le_refl _
        · have := h2 j (by omega); omega
      · have := h2 j (by omega); omega
    · refine ⟨t, by omega, fun j hj => ?_, h3⟩
      by_cases e : j = m + 1
      · rw [e]; omega
      · exact h2 j (by omega)
theorem car_exists (ws : List Int) (h : ∀ w ∈ ws, 0 ≤ w ∧ w ≤ (ws.length : Int)) : ∃ s : Nat, s ≤ ws.length ∧ Car (rot ((ws.length : Int) + 1) (s : Int) ws) := by
  obtain ⟨t, h1, h2, h3⟩ := first_least (fun k => (ws.countP (fun w => decide (w < (k : Int))) : Int) - (k : Int)) (ws.length + 1)
  have z0 : ws.countP (fun w => decide (w < ((0 : Nat) : Int))) = 0 := by
    rw [List.countP_eq_zero]
    intro w hw
    have := h w hw
    simp; omega
  have zN : ws.countP (fun w => decide (w < ((ws.length + 1 : Nat) : Int))) = ws.length := by
    rw [List.countP_eq_length]
    intro w hw
    have := h w hw
    simp; omega
  have tN := h2 (ws.length + 1) (Nat.le_refl _)
  simp only [zN] at tN
  have t0 : t ≠ 0 := fun z => by subst z; simp only [z0] at tN; omega
  refine ⟨ws.length + 1 - t, by omega, ⟨fun x hx => ?_, fun j hj => ?_⟩⟩
  · obtain ⟨w, _, rfl⟩ := List.mem_map.mp hx
    exact Int.emod_nonneg _ (by omega)
  rw [rot_len] at hj
  have turn : ∀ w ∈ ws, ((t : Int) ≤ w → (w + ((ws.length + 1 - t : Nat) : Int)) % ((ws.length : Int) + 1) = w - t) ∧ (w < (t : Int) → (w + ((ws.length + 1 - t : Nat) : Int)) % ((ws.length : Int) + 1) = w + (ws.length : Int) + 1 - t) := fun w hw => by
    have := h w hw
    refine ⟨fun a => ?_, fun a => ?_⟩
    · rw [show w + ((ws.length + 1 - t : Nat) : Int) = (w - t) + ((ws.length : Int) + 1) by omega, Int.add_emod_right]
      exact Int.emod_eq_of_lt (by omega) (by omega)
    · rw [show w + ((ws.length + 1 - t : Nat) : Int) = w + (ws.length : Int) + 1 - t by omega]
      exact Int.emod_eq_of_lt (by omega) (by omega)
  unfold rot
  rw [List.countP_map]
  by_cases hk : t + (j + 1) ≤ ws.length + 1
  · have c := countP_le_add (fun w => decide (w < (t : Int))) ((fun x => decide (x ≤ (j : Int))) ∘ fun w => (w + ((ws.length + 1 - t : Nat) : Int)) % ((ws.length : Int) + 1)) (fun w => decide (w < ((t + (j + 1) : Nat) : Int))) ws fun w hw r => by
      have r' := of_decide_eq_true r
      by_cases a : w < (t : Int)
      · exact .inl (decide_eq_true a)
      · refine .inr (decide_eq_true ?_)
        show (w + ((ws.length + 1 - t : Nat) : Int)) % ((ws.length : Int) + 1) ≤ (j : Int)
        rw [(turn w hw).1 (by omega)]
        omega
    have m := h2 (t + (j + 1)) hk
    try simp only at m
    omega
  · have c := countP_add_le (fun w => !decide (w < (t : Int))) (fun w => decide (w < ((t + (j + 1) - (ws.length + 1) : Nat) : Int))) ((fun x => decide (x ≤ (j : Int))) ∘ fun w => (w + ((ws.length + 1 - t : Nat) : Int)) % ((ws.length : Int) + 1)) ws (fun w hw r => by
        have b := h w hw
        have r' : (t : Int) ≤ w := by simpa using r
        refine ⟨decide_eq_true ?_, decide_eq_false ?_⟩
        · show (w + ((ws.length + 1 - t : Nat) : Int)) % ((ws.length : Int) + 1) ≤ (j : Int)
          rw [(turn w hw).1 r']; omega
        · omega) fun w hw r => by
        have b := h w hw
        have r' := of_decide_eq_true r
        refine decide_eq_true ?_
        show (w + ((ws.length + 1 - t : Nat) : Int)) % ((ws.length : Int) + 1) ≤ (j : Int)
        rw [(turn w hw).2 (by omega)]
        omega
    have n := countP_not (fun w => decide (w < (t : Int))) ws
    have m := h3 (t + (j + 1) - (ws.length + 1)) (by omega)
    try simp only at m
    omega
noncomputable def isCar (ns : List Int) : Bool := decide (ns ≠ []) && (ns.all (fun x => decide (0 ≤ x)) && (List.range ns.length).all (fun j => decide (j + 1 ≤ ns.countP (fun x => decide (x ≤ (j : Int))))))
theorem isCar_iff (ns : List Int) : isCar ns = true ↔ ns ≠ [] ∧ Car ns := by
  unfold isCar
  rw [Bool.and_eq_true, Bool.and_eq_true, decide_eq_true_iff, List.all_eq_true, List.all_eq_true]
  constructor
  · rintro ⟨h1, h2, h3⟩
    exact ⟨h1, fun x hx => of_decide_eq_true (h2 x hx), fun j hj => of_decide_eq_true (h3 j (List.mem_range.mpr hj))⟩
  · rintro ⟨h1, h2⟩
    exact ⟨h1, fun x hx => decide_eq_true (h2.pos x hx), fun j hj => decide_eq_true (h2.few j (List.mem_range.mp hj))⟩
theorem isCar_true {ns : List Int} (h : Car ns) (hne : ns ≠ []) : isCar ns = true := (isCar_iff ns).mpr ⟨hne, h⟩
theorem isCar_neg {ns : List Int} {m : Int} (h : m ∈ ns) (h0 : m < 0) : isCar ns = false := by
  cases e : isCar ns with
  | false => rfl
  | true => have := ((isCar_iff ns).mp e).2.pos m h; omega
theorem isCar_sorted {ns ms : List Int} (hne : ns ≠ []) (hpos : ∀ x ∈ ns, 0 ≤ x) (hp : ms.Perm ns) (hs : ms.Pairwise (· ≤ ·)) : ((List.range ms.length).map fun (k : Nat) => decide (ms.getD k 0 ≤ (k : Int))).all id = isCar ns := by
  rw [Bool.eq_iff_iff, isCar_iff, List.all_eq_true]
  constructor
  · intro h
    have hk : ∀ k : Nat, k < ms.length → ms.getD k 0 ≤ (k : Int) := fun k hk => of_decide_eq_true (h _ (List.mem_map.mpr ⟨k, List.mem_range.mpr hk, rfl⟩))
    refine ⟨hne, hpos, fun j hj => ?_⟩
    rw [← hp.length_eq] at hj
    rw [← hp.countP_eq]
    have h1 : (ms.take (j + 1)).countP (fun x => decide (x ≤ (j : Int))) = (ms.take (j + 1)).length := by
      rw [List.countP_eq_length]
      intro x hx
      obtain ⟨k, hk1, rfl⟩ := List.getElem_of_mem hx
      rw [List.length_take] at hk1
      have := hk k (by omega)
      rw [List.getD_eq_getElem?_getD, List.getElem?_eq_getElem (show k < ms.length by omega)] at this
      rw [List.getElem_take]
      have this' : ms[k] ≤ (k : Int) := this
      exact decide_eq_true (by omega)
    have h2 := (List.take_sublist (j + 1) ms).countP_le (p := fun x => decide (x ≤ (j : Int)))
    rw [h1, List.length_take] at h2
    omega
  · rintro ⟨_, h⟩ b hb
    obtain ⟨k, hk, rfl⟩ := List.mem_map.mp hb
    have hk' := List.mem_range.mp hk
    refine decide_eq_true ?_
    rw [List.getD_eq_getElem?_getD, List.getElem?_eq_getElem hk']
    exact (h.perm hp).sorted hs (List.getElem?_eq_getElem hk')
end Ck
namespace Ck
open PySem L2
/-- the steps of a row of wishes -/
noncomputable def steps (ws : List Int) : List Int := (List.range (ws.length - 1)).map fun (i : Nat) => (ws.getD (i + 1) 0 - ws.getD i 0) % ((ws.length : Int) + 1)
/-- the row that begins with v and goes on by steps -/
noncomputable def walkR (N : Int) : Int → List Int → List Int
  | v, [] => [v]
  | v, c :: cs => v :: walkR N ((v + c) % N) cs
theorem walkR_len (N : Int) : ∀ (cs : List Int) (v : Int), (walkR N v cs).length = cs.length + 1
  | [], v => rfl
  | c :: cs, v => by show (walkR N _ cs).length + 1 = _; rw [walkR_len N cs]; rfl
theorem walkR_bound {N : Int} (hN : 0 < N) : ∀ (cs : List Int) (v : Int), 0 ≤ v → v < N → ∀ w ∈ walkR N v cs, 0 ≤ w ∧ w < N
  | [], v, h0, h1, w, hw => by
    have : w = v := by simpa [walkR] using hw
    omega
  | c :: cs, v, h0, h1, w, hw => by
    have hw' : w ∈ v :: walkR N ((v + c) % N) cs := hw
    rcases List.mem_cons.mp hw' with z | z
    · omega
    · exact walkR_bound hN cs _ (Int.emod_nonneg _ (by omega)) (Int.emod_lt_of_pos _ hN) w z
theorem walkR_rot {N : Int} (s : Int) : ∀ (cs : List Int) (v : Int), rot N s (walkR N v cs) = walkR N ((v + s) % N) cs
  | [], v => rfl
  | c :: cs, v => by
    show (v + s) % N :: rot N s (walkR N ((v + c) % N) cs) = (v + s) % N :: walkR N (((v + s) % N + c) % N) cs
    rw [walkR_rot s cs]
    have e : ((v + c) % N + s) % N = ((v + s) % N + c) % N := by
      rw [Int.emod_add_emod, Int.emod_add_emod, Int.add_right_comm]
    rw [e]
theorem walkR_snoc (N : Int) : ∀ (cs : List Int) (v c : Int), walkR N v (cs ++ [c]) = walkR N v cs ++ [((walkR N v cs).getLastD 0 + c) % N]
  | [], v, c => rfl
  | d :: cs, v, c => by
    show v :: walkR N ((v + d) % N) (cs ++ [c]) = v :: (walkR N ((v + d) % N) cs ++ _)
    rw [walkR_snoc N cs]
    have e : (walkR N v (d :: cs)).getLastD 0 = (walkR N ((v + d) % N) cs).getLastD 0 := by
      show (v :: walkR N ((v + d) % N) cs).getLastD 0 = _
      have h : walkR N ((v + d) % N) cs ≠ [] := fun z => by have := walkR_len N cs ((v + d) % N); rw [z] at this; simp at this
      cases h2 : walkR N ((v + d) % N) cs with
      | nil => exact absurd h2 h
      | cons x xs => rfl
    rw [e]
/-- steps of the walk are the steps that it goes by -/
theorem walkR_steps {N : Int} (hN : 0 < N) : ∀ (cs : List Int) (v : Int), 0 ≤ v → v < N → (∀ c ∈ cs, 0 ≤ c ∧ c < N) → ∀ i : Nat, i < cs.length → ((walkR N v cs).getD (i + 1) 0 - (walkR N v cs).getD i 0) % N = cs.getD i 0
  | [], v, _, _, _, i, hi => by simp at hi
  | c :: cs, v, h0, h1, hc, i, hi => by
    have hc0 := hc c (List.mem_cons_self ..)
    cases i with
    | zero =>
      show ((walkR N ((v + c) % N) cs).getD 0 0 - v) % N = c
      have e : (walkR N ((v + c) % N) cs).getD 0 0 = (v + c) % N := by cases cs <;> rfl
      rw [e, Int.emod_sub_emod]
      rw [show v + c - v = c by omega]
      exact Int.emod_eq_of_lt hc0.1 hc0.2
    | succ i =>
      exact walkR_steps hN cs _ (Int.emod_nonneg _ (by omega)) (Int.emod_lt_of_pos _ hN) (fun d hd => hc d (List.mem_cons_of_mem _ hd)) i (by simpa using hi)
end Ck

set_option Elab.async false
set_option linter.all false
set_option maxRecDepth 100000
set_option maxHeartbeats 4000000
/-! For laws that look at things: the one refusal NoThing; small facts. -/
namespace L2
open PySem PySem.W
end L2
namespace Ck
open PySem L2
theorem ne_int {a b : Int} (h : a ≠ b) : ¬ V.int a = V.int b := fun z => h (by injection z)
theorem map_erase {α β : Type} (f : α → β) : ∀ (l : List α) (k : Nat), (l.map f).eraseIdx k = (l.eraseIdx k).map f
  | [], _ => rfl
  | _ :: _, 0 => rfl
  | a :: l, k + 1 => by
    show f a :: (l.map f).eraseIdx k = f a :: (l.eraseIdx k).map f
    rw [map_erase f l k]
end Ck
namespace Ck
end Ck

set_option Elab.async false
set_option linter.all false
set_option maxRecDepth 100000
set_option maxHeartbeats 4000000
/-! Trees told by elders. -/
namespace Ck
open PySem L2
noncomputable def stp (es : List Int) (r : Int) : Int := if 0 < r then es.getD (r - 1).toNat 0 else r
noncomputable def wlk (es : List Int) : Nat → Int → Int
  | 0, r => r
  | m + 1, r => wlk es m (stp es r)
theorem wlk_succ (es : List Int) : ∀ (m : Nat) (r : Int), wlk es (m + 1) r = stp es (wlk es m r)
  | 0, _ => rfl
  | m + 1, r => by
    show wlk es (m + 1) (stp es r) = stp es (wlk es m (stp es r))
    exact wlk_succ es m (stp es r)
theorem stp_zero (es : List Int) : stp es 0 = 0 := rfl
theorem wlk_zero (es : List Int) : ∀ m : Nat, wlk es m 0 = 0
  | 0 => rfl
  | m + 1 => by show wlk es m (stp es 0) = 0; rw [stp_zero]; exact wlk_zero es m
theorem wlk_add (es : List Int) : ∀ (m k : Nat) (r : Int), wlk es (m + k) r = wlk es k (wlk es m r)
  | 0, k, r => by rw [Nat.zero_add]; rfl
  | m + 1, k, r => by
    rw [Nat.add_right_comm]
    show wlk es (m + k) (stp es r) = wlk es k (wlk es m (stp es r))
    exact wlk_add es m k (stp es r)
theorem wlk_more {es : List Int} {m n : Nat} {r : Int} (h : wlk es m r = 0) (hn : m ≤ n) : wlk es n r = 0 := by
  obtain ⟨k, rfl⟩ := Nat.le.dest hn
  rw [wlk_add, h, wlk_zero]
noncomputable def inR (es : List Int) : Bool := es.all fun e => decide (0 ≤ e) && decide (e ≤ (es.length : Int))
theorem inR_iff (es : List Int) : inR es = true ↔ ∀ e ∈ es, 0 ≤ e ∧ e ≤ (es.length : Int) := by
  unfold inR
  rw [List.all_eq_true]
  constructor
  · intro h e he
    have := h e he
    rw [Bool.and_eq_true] at this
    exact ⟨of_decide_eq_true this.1, of_decide_eq_true this.2⟩
  · intro h e he
    rw [Bool.and_eq_true]
    exact ⟨decide_eq_true (h e he).1, decide_eq_true (h e he).2⟩
theorem stp_in {es : List Int} (h : inR es = true) {r : Int} (h0 : 0 ≤ r) (h1 : r ≤ (es.length : Int)) : 0 ≤ stp es r ∧ stp es r ≤ (es.length : Int) := by
  unfold stp
  split
  · rename_i hr
    have hk : (r - 1).toNat < es.length := by omega
    rw [List.getD_eq_getElem?_getD, List.getElem?_eq_getElem hk]
    exact (inR_iff es).mp h _ (List.getElem_mem hk)
  · exact ⟨h0, h1⟩
theorem wlk_in {es : List Int} (h : inR es = true) : ∀ (m : Nat) {r : Int}, 0 ≤ r → r ≤ (es.length : Int) → 0 ≤ wlk es m r ∧ wlk es m r ≤ (es.length : Int)
  | 0, r, h0, h1 => ⟨h0, h1⟩
  | m + 1, r, h0, h1 => wlk_in h m (stp_in h h0 h1).1 (stp_in h h0 h1).2
noncomputable def cm0 (es : List Int) (k : Nat) : Bool := decide (wlk es es.length ((k : Int) + 1) = 0)
noncomputable def isTree (es : List Int) : Bool := decide (es ≠ []) && (inR es && (List.range es.length).all (cm0 es))
theorem isTree_nil : isTree [] = false := rfl
theorem isTree_cons {es : List Int} (h : es ≠ []) : isTree es = (inR es && (List.range es.length).all (cm0 es)) := by unfold isTree; rw [decide_eq_true h, Bool.true_and]
/-- a tree built along a row: each knot's elder stands ahead of it -/
structure Grown (es row : List Int) (k : Nat) : Prop where
  len : es.length = row.length
  nums : ∀ x ∈ row, 1 ≤ x ∧ x ≤ (row.length : Int)
  nodup : row.Nodup
  at_ : ∀ j : Nat, j < k → ∃ x, row[j]? = some x ∧ (es.getD (x - 1).toNat 0 = 0 ∨ ∃ i, i < j ∧ row[i]? = some (es.getD (x - 1).toNat 0))
theorem Grown.reach {es row : List Int} {k : Nat} (g : Grown es row k) : ∀ (j : Nat), j < k → ∀ x, row[j]? = some x → wlk es (j + 1) x = 0 := by
  intro j
  induction j using Nat.strongRecOn with
  | ind j ih =>
    intro hj x hx
    obtain ⟨y, hy, h⟩ := g.at_ j hj
    rw [hx] at hy
    cases hy
    have hx1 := g.nums x (List.mem_of_getElem? hx)
    have e : stp es x = es.getD (x - 1).toNat 0 := by unfold stp; rw [if_pos (by omega)]
    show wlk es j (stp es x) = 0
    rw [e]
    rcases h with h | ⟨i, hi, hr⟩
    · rw [h]; exact wlk_zero es j
    · exact wlk_more (ih i hi (by omega) _ hr) (by omega)
theorem nodup_all : ∀ (n : Nat) (row : List Int), row.Nodup → row.length = n → (∀ x ∈ row, 1 ≤ x ∧ x ≤ (n : Int)) → ∀ k : Int, 1 ≤ k → k ≤ (n : Int) → k ∈ row := by
  intro n row nd hl hx k k1 k2
  by_cases h : k ∈ row
  · exact h
  exfalso
  -- n numbers among n - 1
  have key : ∀ (m : Nat) (l : List Int), l.Nodup → (∀ x ∈ l, 1 ≤ x ∧ x ≤ (m : Int)) → l.length ≤ m := by
    intro m
    induction m with
    | zero =>
      intro l _ h
      cases l with
      | nil => simp
      | cons x l => have := h x (by simp); omega
    | succ m ih =>
      intro l nd h
      have h2 := ih (l.erase ((m : Int) + 1)) (nd.erase _) fun x hx => by
        have h3 := (nd.mem_erase_iff).mp hx
        have := h x h3.2
        omega
      have h3 := List.length_erase (a := (m : Int) + 1) (l := l)
      split at h3 <;> omega
  have h1 := key n (k :: row) (List.nodup_cons.mpr ⟨h, nd⟩) fun x hx' => by
    rcases List.mem_cons.mp hx' with z | z
    · omega
    · exact hx x z
  simp at h1
  omega
theorem Grown.tree {es row : List Int} (g : Grown es row row.length) : isTree es = decide ((0 : Int) < (es.length : Int)) := by
  by_cases hn : es = []
  · subst hn; rfl
  have hpos : 0 < es.length := List.length_pos_iff.mpr hn
  rw [decide_eq_true (by omega), isTree_cons hn, Bool.and_eq_true]
  have knot : ∀ k : Int, 1 ≤ k → k ≤ (row.length : Int) → ∃ j, j < row.length ∧ row[j]? = some k := fun k k1 k2 => by
    have := nodup_all row.length row g.nodup rfl g.nums k k1 k2
    obtain ⟨j, hj, e⟩ := List.getElem_of_mem this
    exact ⟨j, hj, by rw [List.getElem?_eq_getElem hj, e]⟩
  constructor
  · rw [inR_iff]
    intro e he
    obtain ⟨i, hi, rfl⟩ := List.getElem_of_mem he
    obtain ⟨j, hj, hr⟩ := knot ((i : Int) + 1) (by omega) (by have := g.len; omega)
    obtain ⟨x, hx, h⟩ := g.at_ j hj
    rw [hr] at hx
    cases hx
    have ei : es.getD ((i : Int) + 1 - 1).toNat 0 = es[i] := by
      rw [show ((i : Int) + 1 - 1).toNat = i by omega, List.getD_eq_getElem?_getD, List.getElem?_eq_getElem hi]
      rfl
    rw [ei] at h
    rcases h with h | ⟨i', _, h⟩
    · rw [h]; omega
    · have := g.nums _ (List.mem_of_getElem? h)
      have := g.len
      omega
  · rw [List.all_eq_true]
    intro k hk
    have hk' := List.mem_range.mp hk
    obtain ⟨j, hj, hr⟩ := knot ((k : Int) + 1) (by omega) (by have := g.len; omega)
    exact decide_eq_true (wlk_more (g.reach j hj _ hr) (by have := g.len; omega))
end Ck
namespace Ck
open PySem L2
theorem dec_int (a b : Int) : decide (V.int a = V.int b) = decide (a = b) := by
  by_cases h : a = b
  · rw [decide_eq_true h, decide_eq_true (by rw [h])]
  · rw [decide_eq_false h, decide_eq_false (ne_int h)]
end Ck
namespace Ck
theorem getD_set (es : List Int) (k m : Nat) (d : Int) (hk : k < es.length) : (es.set k d).getD m 0 = if m = k then d else es.getD m 0 := by
  rw [List.getD_eq_getElem?_getD, List.getElem?_set, List.getD_eq_getElem?_getD]
  by_cases e : k = m
  · subst e
    rw [if_pos rfl, if_pos rfl, if_pos hk]
    rfl
  · rw [if_neg e, if_neg (fun z => e z.symm)]
end Ck
namespace Ck
open PySem L2
noncomputable def inC (cs : List Int) : Bool := cs.all fun c => decide (0 ≤ c) && decide (c ≤ (cs.length : Int) + 1)
theorem inC_iff (cs : List Int) : inC cs = true ↔ ∀ c ∈ cs, 0 ≤ c ∧ c ≤ (cs.length : Int) + 1 := by
  unfold inC
  rw [List.all_eq_true]
  constructor
  · intro h e he
    have := h e he
    rw [Bool.and_eq_true] at this
    exact ⟨of_decide_eq_true this.1, of_decide_eq_true this.2⟩
  · intro h e he
    rw [Bool.and_eq_true]
    exact ⟨decide_eq_true (h e he).1, decide_eq_true (h e he).2⟩
end Ck

set_option Elab.async false
set_option linter.all false
set_option maxRecDepth 100000
set_option maxHeartbeats 4000000
/-! Own rules: list(range(..)). -/
namespace L2
open PySem PySem.Spec PyProof.Rows
theorem vals_get : ∀ {xs : List V} {us : List Value}, us.length = xs.length → (∀ (j : Nat) v, us[j]? = some v → ∃ x, xs[j]? = some x ∧ RelV x v) → Vals xs us
  | [], us, hl, _ => by
    have : us = [] := List.eq_nil_of_length_eq_zero hl
    subst this
    exact .nil
  | x :: xs, [], hl, _ => by simp at hl
  | x :: xs, u :: us, hl, k => by
    obtain ⟨y, e1, r⟩ := k 0 u rfl
    have : x = y := by simpa using e1
    subst this
    exact .cons r (vals_get (by simpa using hl) fun j w e => by
      obtain ⟨y, f1, f2⟩ := k (j + 1) w (by simpa using e)
      exact ⟨y, by simpa using f1, f2⟩)
/-- the numbers of a range -/
noncomputable def rngV (i : Int) (n : Nat) : List V := ((List.range n).map fun (k : Nat) => i + (k : Int)).map V.int
section
variable {X : Cx}
theorem list_range {pins : List (Addr × Obj)} {σ : St} {H : Hp} {s : Shared} {Q : VK} {lo hi : Int} {t u v : Tok} {tk : Nat} (hc : X.calm = true) (I : Inv X pins σ H s) (h1 : -(2 ^ 62) ≤ lo) (h2 : lo < 2 ^ 62) (h3 : -(2 ^ 62) ≤ hi) (h4 : hi < 2 ^ 62) (hz : (hi - lo).toNat ≤ 1000000)
    (q : ∀ l, H l = none → Q (.ref l) (upd H l (.lst (rngV lo (hi - lo).toNat)))) : wpAny (model X.prog X.w) X.A (call (.type "list") [.ref s.heap.objs.size]) (EP X pins σ Q) X.xe { s with heap := s.heap.push { cls := .type "range", data := .fields #[.int lo t, .int hi u, .int 1 v] }, toks := tk } := by
  have I1 : Inv X pins σ H { s with heap := s.heap.push { cls := .type "range", data := .fields #[.int lo t, .int hi u, .int 1 v] }, toks := tk } := I.kept fun b o e => Heap.get?_push_of_some _ e
  refine call_list_range (n := (hi - lo).toNat) (I.ok.hd hc) (IsRange.new ..) (small_one h1 h2 h3 h4) (by rw [rangeSize_one]; split <;> omega) (by omega) fun h' tk' acc' c' hk he hacc => ?_
  have hl : acc'.toList.length = (rngV lo (hi - lo).toNat).length := by unfold rngV; simpa using hacc.1
  refine ⟨.ref _, _, I1.laid (t' := tk') (o := .lst (rngV lo (hi - lo).toNat)) hk (Nat.le_refl _) ⟨?_, acc'.toList, c', vals_get hl fun j w e => ?_, he⟩, rfl, q _ (I1.hok.fresh (Nat.le_refl _))⟩
  · unfold rngV
    rw [List.length_map, List.length_map, List.length_range]
    exact sz (by omega)
  · obtain ⟨t', e2⟩ := hacc.2 j w (by simpa using e)
    have hj : j < (hi - lo).toNat := by
      have := (List.getElem?_eq_some_iff.mp e).1
      rw [hl] at this
      unfold rngV at this
      simpa using this
    refine ⟨.int (lo + (j : Int)), ?_, t', by rw [e2, Int.mul_one]⟩
    unfold rngV
    rw [List.getElem?_map, List.getElem?_map, List.getElem?_range hj]
    rfl
noncomputable def tLR2 (ta : TA) : TE := fun σ H Q => ta σ H fun vs H1 => ∃ i j : Int, vs = [.int i, .int j] ∧ (-(2 ^ 62) ≤ i ∧ i < 2 ^ 62 ∧ -(2 ^ 62) ≤ j ∧ j < 2 ^ 62) ∧ (j - i).toNat ≤ 1000000 ∧ ∀ l, H1 l = none → Q (.ref l) (upd H1 l (.lst (rngV i (j - i).toNat)))
theorem pe_lr2 {a b : Expr} {ta : TA} {p p2 pos pos2 : Pos} (hc : X.calm = true) (hgl : Gl X "list") (hml : X.mg "list" = none) (hg : Gl X "range") (hm : X.mg "range" = none) (ha : PA X [a, b] ta) (hs : starEach [a, b] X.env = [(false, eval a X.env), (false, eval b X.env)] := by rfl) (hs2 : starEach [b] X.env = [(false, eval b X.env)] := by rfl)
    (he : starEach [.Call (.Name "range" p) [a, b] [] pos] X.env = [(false, eval (.Call (.Name "range" p) [a, b] [] pos) X.env)] := by rfl) :
    PE X (.Call (.Name "list" p2) [.Call (.Name "range" p) [a, b] [] pos] [] pos2) (tLR2 ta) := by
  intro pins s σ H Q I h
  refine wpAny_Call_Name_kw (ld_blt I hgl hml bb_list ?_ (by decide) (by decide))
  refine PyProof.Rows.callWith_type1 ?_ he rfl
  rw [he]
  show wpAny _ _ (spliced ((false, eval (.Call (.Name "range" p) [a, b] [] pos) X.env) :: backTo pos2 [])) _ _ s
  refine Calls.spliced_cons (Call_ (ld_blt I hg hm boot_range (PyProof.Rows.callWith_type1 (thn (ha pos pins s σ H _ I h) fun us s1 ⟨vs, H1, I1, r1, q1⟩ => ?_) (by rw [hs, hs2]) (by rw [hs2]; rfl))))
  obtain ⟨i, j, e, ⟨b1, b2, b3, b4⟩, b5, q⟩ := q1
  subst e
  cases r1 with
  | cons r rr =>
    cases rr with
    | cons r' rr =>
      cases rr
      obtain ⟨t, rfl⟩ := r
      obtain ⟨t', rfl⟩ := r'
      exact call_range_2 (Calls.spliced_nil (list_range hc I1 b1 b2 b3 b4 b5 q))
end
end L2
namespace L2
open PySem PySem.Spec PyProof.Rows
end L2
namespace L2
open PySem PySem.Spec PyProof.Rows
end L2

set_option Elab.async false
set_option linter.all false
set_option maxRecDepth 100000
set_option maxHeartbeats 4000000
/-! Rows that come off a pile. -/
namespace Ck
open PySem L2
noncomputable def rgI (n : Nat) : List Int := (List.range n).map fun (k : Nat) => (k : Int)
noncomputable def stk (row : List Int) (k p : Nat) : List Int := (rgI p).filter fun m => !decide (m ∈ row.take k)
end Ck
namespace Ck
open PySem L2
end Ck

set_option Elab.async false
set_option linter.all false
set_option maxRecDepth 100000
set_option maxHeartbeats 4000000
/-! A tree's code, and a code's tree. -/
namespace Ck
open PySem L2
noncomputable def eld (es : List Int) (k : Int) : Int := es.getD (k - 1).toNat 0
noncomputable def frees (w T : List Int) : List Int := T.filter fun k => !decide (k ∈ w)
theorem mem_frees {w T : List Int} {k : Int} : k ∈ frees w T ↔ k ∈ T ∧ k ∉ w := by unfold frees; rw [List.mem_filter]; simp
theorem frees_congr {w w' T : List Int} (h : ∀ k, k ∈ w ↔ k ∈ w') : frees w T = frees w' T := by
  unfold frees
  refine List.filter_congr fun k _ => ?_
  by_cases h1 : k ∈ w
  · rw [decide_eq_true h1, decide_eq_true ((h k).mp h1)]
  · rw [decide_eq_false h1, decide_eq_false (fun z => h1 ((h k).mpr z))]
/-- the knots of T are taken out in the order ts -/
inductive Enc (es : List Int) : List Int → List Int → Prop
  | nil : Enc es [] []
  | cons {T ts : List Int} {t : Int} : t ∈ frees (T.map (eld es)) T → (∀ k ∈ frees (T.map (eld es)) T, t ≤ k) → Enc es (T.erase t) ts → Enc es T (t :: ts)
inductive Dec : List Int → List Int → List Int → Prop
  | nil : Dec [] [] []
  | cons {w T ts : List Int} {c t : Int} : t ∈ frees (c :: w) T → (∀ k ∈ frees (c :: w) T, t ≤ k) → Dec w (T.erase t) ts → Dec (c :: w) T (t :: ts)
theorem Dec.perm {w T ts : List Int} (h : Dec w T ts) : ts.Perm T := by
  induction h with
  | nil => exact List.Perm.refl _
  | cons h1 _ _ ih => exact (List.Perm.cons _ ih).trans (List.perm_cons_erase (mem_frees.mp h1).1).symm
theorem Dec.len {w T ts : List Int} (h : Dec w T ts) : ts.length = w.length := by
  induction h with
  | nil => rfl
  | cons _ _ _ ih => simp [ih]
theorem Dec.enc {es w T ts : List Int} (h : Dec w T ts) : ts.map (eld es) = w → Enc es T ts := by
  induction h with
  | nil => intro _; exact .nil
  | @cons w T ts c t h1 h2 h3 ih =>
    intro e
    rw [List.map_cons, List.cons.injEq] at e
    have pm : (t :: ts).Perm T := (List.Perm.cons _ h3.perm).trans (List.perm_cons_erase (mem_frees.mp h1).1).symm
    have e2 : frees (c :: w) T = frees (T.map (eld es)) T := frees_congr fun k => by
      rw [← e.1, ← e.2]
      exact (pm.map (eld es)).mem_iff
    rw [e2] at h1 h2
    exact .cons h1 h2 (ih e.2)
theorem frees_ne {w0 T : List Int} (nd : T.Nodup) (pos : ∀ k ∈ T, 1 ≤ k) (hl : w0.length + 1 = T.length) : frees (w0 ++ [0]) T ≠ [] := by
  intro z
  have sub : T ⊆ w0 := fun k hk => by
    by_cases h : k ∈ w0 ++ [0]
    · rcases List.mem_append.mp h with y | y
      · exact y
      · have : k = 0 := by simpa using y
        have := pos k hk
        omega
    · have : k ∈ frees (w0 ++ [0]) T := mem_frees.mpr ⟨hk, h⟩
      rw [z] at this
      cases this
  have := nd.length_le_of_subset sub
  omega
theorem Dec.later {w T ts : List Int} (h : Dec w T ts) : ∀ (p : Nat) (t : Int), ts[p]? = some t → t ∉ w.drop p := by
  induction h with
  | nil => intro p t e; cases e
  | @cons w T ts c t h1 h2 h3 ih =>
    intro p u e
    cases p with
    | zero =>
      have : t = u := by simpa using e
      subst this
      exact (mem_frees.mp h1).2
    | succ p => exact ih p u (by simpa using e)
/-- all knots -/
noncomputable def knots (n : Nat) : List Int := (List.range n).map fun (k : Nat) => 1 + (k : Int)
theorem mem_knots {n : Nat} {k : Int} : k ∈ knots n ↔ 1 ≤ k ∧ k ≤ (n : Int) := by
  unfold knots
  rw [List.mem_map]
  constructor
  · rintro ⟨j, hj, rfl⟩
    have := List.mem_range.mp hj
    omega
  · intro h
    exact ⟨(k - 1).toNat, List.mem_range.mpr (by omega), by omega⟩
theorem knots_lt (n : Nat) : (knots n).Pairwise (· < ·) := by
  unfold knots
  rw [List.pairwise_map]
  exact List.pairwise_lt_range.imp fun h => by omega
theorem knots_nd (n : Nat) : (knots n).Nodup := (knots_lt n).imp fun h => Int.ne_of_lt h
theorem knots_len (n : Nat) : (knots n).length = n := by unfold knots; simp
/-- a code's tree is a tree -/
theorem Dec.grown {w ts es : List Int} (h : Dec w (knots w.length) ts) (hl : es.length = w.length) (he : ts.map (eld es) = w) (hw : ∀ c ∈ w, 0 ≤ c ∧ c ≤ (w.length : Int)) : Grown es ts.reverse ts.reverse.length := by
  have pm := h.perm
  have lt : ts.length = w.length := h.len
  refine ⟨by rw [List.length_reverse, hl, lt], fun x hx => ?_, ?_, fun j hj => ?_⟩
  · rw [List.mem_reverse] at hx
    have := mem_knots.mp (pm.mem_iff.mp hx)
    rw [List.length_reverse, lt]
    exact this
  · have hnd : ts.Nodup := pm.nodup_iff.mpr (knots_nd _)
    exact (List.reverse_perm ts).nodup_iff.mpr hnd
  · rw [List.length_reverse] at hj
    have hp : ts.length - 1 - j < ts.length := by omega
    have ex : ts[ts.length - 1 - j]? = some ts[ts.length - 1 - j] := List.getElem?_eq_getElem hp
    refine ⟨ts[ts.length - 1 - j], by rw [List.getElem?_reverse hj]; exact ex, ?_⟩
    have ew : w[ts.length - 1 - j]? = some (eld es ts[ts.length - 1 - j]) := by
      have := congrArg (fun l : List Int => l[ts.length - 1 - j]?) he
      simp only [List.getElem?_map, ex] at this
      exact this.symm
    have bw := hw _ (List.mem_of_getElem? ew)
    show eld es ts[ts.length - 1 - j] = 0 ∨ ∃ i, i < j ∧ ts.reverse[i]? = some (eld es ts[ts.length - 1 - j])
    generalize eld es ts[ts.length - 1 - j] = c at ew bw
    by_cases hc : c = 0
    · exact .inl hc
    · right
      have hm : c ∈ ts := pm.mem_iff.mpr (mem_knots.mpr ⟨by omega, bw.2⟩)
      obtain ⟨q, hq, eq⟩ := List.getElem_of_mem hm
      have eq' : ts[q]? = some c := by rw [List.getElem?_eq_getElem hq, eq]
      have nl := h.later q c eq'
      have hlt : ts.length - 1 - j < q := by
        by_cases z : q ≤ ts.length - 1 - j
        · exfalso
          refine nl (List.mem_of_getElem? (i := ts.length - 1 - j - q) ?_)
          rw [List.getElem?_drop, show q + (ts.length - 1 - j - q) = ts.length - 1 - j by omega]
          exact ew
        · omega
      refine ⟨ts.length - 1 - q, by omega, ?_⟩
      rw [List.getElem?_reverse (by omega), show ts.length - 1 - (ts.length - 1 - q) = q by omega]
      exact eq'
end Ck
namespace Ck
theorem tree_facts {es : List Int} (h : isTree es = true) : es ≠ [] ∧ inR es = true ∧ ∀ k : Int, 1 ≤ k → k ≤ (es.length : Int) → wlk es es.length k = 0 := by
  unfold isTree at h
  rw [Bool.and_eq_true, Bool.and_eq_true] at h
  refine ⟨of_decide_eq_true h.1, h.2.1, fun k k1 k2 => ?_⟩
  have := List.all_eq_true.mp h.2.2 (k - 1).toNat (List.mem_range.mpr (by omega))
  unfold cm0 at this
  have := of_decide_eq_true this
  rw [show (((k - 1).toNat : Nat) : Int) + 1 = k by omega] at this
  exact this
end Ck
namespace Ck
end Ck

set_option Elab.async false
set_option linter.all false
set_option maxRecDepth 100000
set_option maxHeartbeats 4000000
/-! Own rules: list.remove; rules within comprehensions; a slice up to the last one. -/
namespace L2
open PySem PySem.Spec PyProof.Rows PySem.SeqAt
theorem erase_idx (k : Int) : ∀ ns : List Int, k ∈ ns → ns.eraseIdx (ns.idxOf k) = ns.erase k
  | [], h => by cases h
  | n :: ns, h => by
    by_cases e : n = k
    · subst e
      rw [List.idxOf_cons_self, List.erase_cons_head]
      rfl
    · have hm : k ∈ ns := by
        rcases List.mem_cons.mp h with z | z
        · exact absurd z.symm e
        · exact z
      have e2 : (n :: ns).idxOf k = ns.idxOf k + 1 := by
        have : (n == k) = false := by simpa using e
        simp [List.idxOf_cons, this]
      rw [e2, List.erase_cons_tail (by simpa using e)]
      show n :: ns.eraseIdx (ns.idxOf k) = _
      rw [erase_idx k ns hm]
section
variable {X : Cx}
noncomputable def rRemove : V → List V → Hp → VK → Prop := fun x vs H Q => ∃ (l : Addr) (ns : List Int) (k : Int), x = .ref l ∧ vs = [.int k] ∧ H l = some (.lst (ns.map V.int)) ∧ k ∈ ns ∧ Q .non (upd H l (.lst ((ns.erase k).map V.int)))
theorem mt_remove : MtM X "list.remove" rRemove := by
  intro pins s σ H x vs v us Q I rx rv h
  obtain ⟨l, ns, k, rfl, rfl, hH, hk, q⟩ := h
  cases rx
  obtain ⟨u, rfl, t, rfl⟩ := rv.one
  obtain ⟨z, its, n, r, hl, e⟩ := I.lstM hH
  have hi : IntsAre its ns := intsAre_of r
  have hlen := hi.length
  have hj : ns.idxOf k < ns.length := List.idxOf_lt_length_iff.mpr hk
  refine call_meets F.slot_list_remove ⟨_, e, rfl⟩ F.entry_list_remove (F.args_list_remove_2 _ _)
    (MeetsSeq.list_remove l its.toArray n (.int k t) (isInt k) (fun y hy => eq_isInt k t hi y (by simpa using hy)) (ns.idxOf k) (by simpa [hlen] using hj) ?_ ?_ (by rw [List.size_toArray]; omega)) ⟨e, ?_⟩
  · show isInt k its[ns.idxOf k] = true
    rw [isInt_at k hi _ (by omega) hj]
    simpa using List.getElem_idxOf hj
  · intro j hjs hlt
    show isInt k its[j] = false
    rw [isInt_at k hi j (by simpa using hjs) (by omega)]
    exact ne_of_lt_idxOf hlt _
  · rw [← erase_idx k ns hk] at q
    refine ⟨.non, _, I.lset (its' := its.eraseIdx (ns.idxOf k)) (ys := (ns.eraseIdx (ns.idxOf k)).map V.int) hH e ?_ (by rw [← Ck.map_erase]; exact r.eraseIdx _) ?_, rfl, q⟩
    · show its.toArray.eraseIdxIfInBounds (ns.idxOf k) = (its.eraseIdx (ns.idxOf k)).toArray
      rw [List.eraseIdxIfInBounds_toArray]
    · rw [List.length_map]
      have := List.length_eraseIdx_le ns (ns.idxOf k)
      rw [List.length_map] at hl z
      omega
theorem op_notinK {K : PySem.W.Frag} (hK : X.K = K) : OpR X (compareOp .NotIn) (fun x y H Q => ∃ (k : Int) (p : Addr) (ns : List Int), x = .int k ∧ y = .ref p ∧ SqL K H p (ns.map V.int) ∧ Q (.bl (!decide (k ∈ ns))) H) := by
  subst hK
  exact op_notin
theorem sl_listK {K : PySem.W.Frag} (hK : X.K = K) : SlR X (rSlL K) := by
  subst hK
  exact sl_list
end
end L2
namespace Ck
open PySem L2
end Ck
namespace L2
open PySem
end L2
namespace Ck
open PySem L2
theorem rngV_knots (n : Nat) : rngV 1 n = (knots n).map V.int := rfl
theorem frees_take {w T : List Int} {j : Nat} {k : Int} (h : T[j]? = some k) : frees w (T.take (j + 1)) = frees w (T.take j) ++ (if k ∈ w then [] else [k]) := by
  unfold frees
  rw [List.take_add_one, h, List.filter_append]
  refine congrArg _ ?_
  by_cases hk : k ∈ w <;> simp [hk]
theorem eld_set {es : List Int} {t v : Int} (h1 : 1 ≤ t) (h2 : t ≤ (es.length : Int)) (k : Int) (hk : 1 ≤ k) : eld (es.set (t - 1).toNat v) k = if k = t then v else eld es k := by
  unfold eld
  rw [getD_set es (t - 1).toNat (k - 1).toNat v (by omega)]
  by_cases e : k = t
  · rw [if_pos (by rw [e]), if_pos e]
  · rw [if_neg (by omega), if_neg e]
end Ck

set_option Elab.async false
set_option linter.all false
set_option maxRecDepth 100000
set_option maxHeartbeats 4000000
/-! Figures of a number, rings' things and their codes; objects of one of several classes. -/
namespace L2
open PySem PySem.Spec PyProof.Rows
section
variable {X : Cx}
/-- one of two readings -/
noncomputable def tEit (t1 t2 : TE) : TE := fun σ H Q => t1 σ H Q ∨ t2 σ H Q
theorem pe_eit {e : Expr} {t1 t2 : TE} (h1 : PE X e t1) (h2 : PE X e t2) : PE X e (tEit t1 t2) := fun pins s σ H Q I h => h.elim (h1 pins s σ H Q I) (h2 pins s σ H Q I)
end
/-- what isinstance asks of an own class -/
structure InsT (K : PySem.W.Frag) (C : Addr) : Prop where
  cl : Cls K C
  ha : PySem.W.findIn K (.ref C) "__class__" = some (some (.builtin "object.__class__"))
  hn : PySem.W.specialIn K (.builtin "object.__class__") "__get__" = some (some (.builtin "getset_descriptor.__get__"))
  htk : PySem.W.takesIn K (.builtin "object.__class__") = some true
  hm : PySem.W.mroIn K C (.type "object") = some true
theorem InsT.ty {K : PySem.W.Frag} {C a dx : Addr} {fs : List (Str × V)} {H : Hp} (h : InsT K C) (e : H a = some (.ins C dx fs)) : TyOf K H (.ref a) (.ref C) := .ins e h.cl h.ha h.hn h.htk h.hm
end L2
namespace Ck
open PySem L2
noncomputable def figs (b : Int) : Nat → Int → List Int
  | 0, _ => []
  | k + 1, m => figs b k (m / b) ++ [m % b]
noncomputable def dv (b : Int) : Nat → Int → Int
  | 0, m => m
  | k + 1, m => dv b k (m / b)
theorem dv_succ (b : Int) : ∀ (k : Nat) (m : Int), dv b (k + 1) m = dv b k m / b
  | 0, _ => rfl
  | k + 1, m => dv_succ b k (m / b)
theorem figs_front (b : Int) : ∀ (k : Nat) (m : Int), figs b (k + 1) m = (dv b k m % b) :: figs b k m
  | 0, m => rfl
  | k + 1, m => by
    show figs b (k + 1) (m / b) ++ [m % b] = _
    rw [figs_front b k (m / b)]
    rfl
theorem figs_len (b : Int) : ∀ (k : Nat) (m : Int), (figs b k m).length = k
  | 0, _ => rfl
  | k + 1, m => by
    show (figs b k (m / b) ++ [m % b]).length = _
    rw [List.length_append, figs_len b k]
    rfl
theorem figs_bound {b : Int} (hb : 0 < b) : ∀ (k : Nat) (m : Int), ∀ c ∈ figs b k m, 0 ≤ c ∧ c < b
  | 0, _, c, h => by cases h
  | k + 1, m, c, h => by
    rcases List.mem_append.mp (show c ∈ figs b k (m / b) ++ [m % b] from h) with z | z
    · exact figs_bound hb k _ c z
    · rw [List.mem_singleton.mp z]
      exact ⟨Int.emod_nonneg _ (by omega), Int.emod_lt_of_pos _ hb⟩
theorem pw_pos {b : Int} (hb : 0 < b) : ∀ k : Nat, 0 < pw b k
  | 0 => (by decide : (0 : Int) < 1)
  | k + 1 => Int.mul_pos (pw_pos hb k) hb
/-- a thing of the ring family w and its code -/
noncomputable def Rg (w : Nat) (ns cs : List Int) : Prop := (∀ c ∈ cs, 0 ≤ c ∧ c ≤ (cs.length : Int) + 1) ∧ match w with
  | 0 => ns = cs
  | 1 => isTree ns = true ∧ ns.length = cs.length + 1 ∧ ∃ ts, Enc ns (knots ns.length) ts ∧ ts.map (eld ns) = cs ++ [0]
  | _ => Car ns ∧ ns.length = cs.length + 1 ∧ steps ns = cs
theorem rg_codes {cs : List Int} (h : ∀ c ∈ cs, 0 ≤ c ∧ c ≤ (cs.length : Int) + 1) : Rg 0 cs cs := ⟨h, rfl⟩
theorem rg_trees {cs es ts : List Int} (h : ∀ c ∈ cs, 0 ≤ c ∧ c ≤ (cs.length : Int) + 1) (le : es.length = cs.length + 1) (dec : Dec (cs ++ [0]) (knots (cs.length + 1)) ts) (e : ts.map (eld es) = cs ++ [0]) : Rg 1 es cs := by
  have lw : (cs ++ [0]).length = cs.length + 1 := by simp
  have dec' : Dec (cs ++ [0]) (knots (cs ++ [0]).length) ts := by rw [lw]; exact dec
  have gr := dec'.grown (es := es) (by omega) e (fun c hc => by
    rcases List.mem_append.mp hc with w | w
    · have := h c w; omega
    · have : c = 0 := by simpa using w
      omega)
  refine ⟨h, by rw [gr.tree]; exact decide_eq_true (by omega), le, ts, ?_, e⟩
  rw [le]
  exact dec.enc e
theorem steps_walk {cs : List Int} (h : ∀ c ∈ cs, 0 ≤ c ∧ c ≤ (cs.length : Int) + 1) {v : Int} (v0 : 0 ≤ v) (v1 : v < (cs.length : Int) + 2) : steps (walkR ((cs.length : Int) + 2) v cs) = cs := by
  have lwk := walkR_len ((cs.length : Int) + 2) cs v
  unfold steps
  rw [lwk, Nat.add_sub_cancel, show ((cs.length + 1 : Nat) : Int) + 1 = (cs.length : Int) + 2 by omega]
  refine List.ext_getElem (by simp) fun i h1 h2 => ?_
  rw [List.getElem_map, List.getElem_range]
  rw [walkR_steps (by omega) cs v v0 v1 (fun c hc => by have := h c hc; omega) i h2, List.getD_eq_getElem?_getD, List.getElem?_eq_getElem h2]
  rfl
theorem rg_cars {cs : List Int} (h : ∀ c ∈ cs, 0 ≤ c ∧ c ≤ (cs.length : Int) + 1) {v : Int} (v0 : 0 ≤ v) (v1 : v < (cs.length : Int) + 2) (car : Car (walkR ((cs.length : Int) + 2) v cs)) : Rg 2 (walkR ((cs.length : Int) + 2) v cs) cs :=
  ⟨h, car, walkR_len _ _ _, steps_walk h v0 v1⟩
theorem Rg.figs {b : Int} {k : Nat} (e : b = (k : Int) + 2) (m : Int) : ∀ c ∈ Ck.figs b k m, 0 ≤ c ∧ c ≤ ((Ck.figs b k m).length : Int) + 1 := by
  intro c hc
  have := figs_bound (b := b) (by omega) k m c hc
  rw [figs_len]
  omega
theorem Rg.lenO {w : Nat} {ns cs : List Int} (h : Rg w ns cs) (hw : w ≠ 0) : ns.length = cs.length + 1 := by
  obtain ⟨_, h⟩ := h
  match w, hw, h with
  | 1, _, h => exact h.2.1
  | _ + 2, _, h => exact h.2.1
theorem Rg.len {w : Nat} {ns cs : List Int} (h : Rg w ns cs) : ns.length ≤ cs.length + 1 := by
  by_cases hw : w = 0
  · subst hw
    have e : ns = cs := h.2
    rw [e]; omega
  · rw [h.lenO hw]; exact Nat.le_refl _
end Ck
namespace L2
open PySem PySem.Spec PyProof.Rows PyProof
end L2

set_option Elab.async false
set_option linter.all false
set_option maxRecDepth 100000
set_option maxHeartbeats 4000000
/-! A call of what a list holds; a tried call of one of several methods. -/
namespace L2
open PySem PySem.Spec PyProof.Rows
section
variable {X : Cx} {f : Addr} {fd : FuncData} {ps : List Str} {sp : Sp} {x : Str} {p pos : Pos} {a b e : Expr} {es : List Expr} {tc : TE} {t : TA} {j k : Nat}
/-- the callee is read first -/
noncomputable def tCallV (f : Addr) (sp : Sp) (E : XK) (tc : TE) (t : TA) : TE := fun σ H Q => tc σ H fun v H1 => v = .ref f ∧ t σ H1 fun vs H2 => sp vs H2 Q E
theorem pcallV {E : XK} (T : Thr X E) (hc : PE X (.Subscript a b p) tc) (D : Def X.prog X.w X.K X.mg X.base x ps j sp f fd) (hr : Room k X.A) (ha : PA X (e :: es) t) (hjk : j ≤ k := by decide)
    (he : starEach (e :: es) X.env = (false, eval e X.env) :: starEach es X.env := by rfl) (hpl : (backTo pos (starEach es X.env)).any (·.1) = false := by rfl) :
    PE X (.Call (.Subscript a b p) (e :: es) [] pos) (tCallV f sp E tc t) := by
  intro pins s σ H Q I h
  show wpAny (model X.prog X.w) X.A (eval (.Subscript a b p) X.env >>= fun fv => callWith pos fv [] (backTo pos (starEach (e :: es) X.env)) (backToKw pos (keywordEach [] X.env))) _ _ _
  refine wpAny_bind (thn (hc pins s σ H _ I h) fun u s1 ⟨v, H1, I1, rv, ev, q⟩ => ?_)
  subst ev
  obtain rfl : u = Value.ref f := rv
  refine PySem.W.callWith_K (first := []) (h₀ := X.base) I1.ok.mod.kin D.kp (thn (ha pos pins s1 σ H1 _ I1 q) fun us s2 ⟨vs, H2, I2, r, q2⟩ => ⟨I2.kIn, ?_⟩) he hpl
  have q3 : sp (vs ++ []) H2 Q E := by rw [List.append_nil]; exact q2
  exact run_fn D.ok (hr.mono hjk) D.b .nil T.pass I2 r q3
theorem px_eit {e : Expr} {t1 t2 : XK → TE} (h1 : PEx X e t1) (h2 : PEx X e t2) : PEx X e (fun E => tEit (t1 E) (t2 E)) :=
  fun E σ pn' xe' hp pins s H Q I h => h.elim (h1 E σ pn' xe' hp pins s H Q I) (h2 E σ pn' xe' hp pins s H Q I)
end
end L2

set_option Elab.async false
set_option linter.all false
set_option maxRecDepth 100000
set_option maxHeartbeats 4000000
/-! Rows that are no code, no tree, no cars. -/
namespace Ck
open PySem L2
theorem no_of {b : Bool} (h : b = true → False) : b = false := by
  cases b with
  | false => rfl
  | true => exact (h rfl).elim
theorem inC_bad {cs : List Int} {c : Int} (hc : c ∈ cs) (h : c < 0 ∨ (cs.length : Int) + 1 < c) : inC cs = false :=
  no_of fun z => by have := (inC_iff cs).mp z c hc; omega
theorem isTree_out {es : List Int} {e : Int} (he : e ∈ es) (h : e < 0 ∨ (es.length : Int) < e) : isTree es = false :=
  no_of fun z => by have := (inR_iff es).mp (tree_facts z).2.1 e he; omega
theorem isTree_loop {es : List Int} {k : Nat} (hk : k < es.length) (h : es[k]? = some ((k : Int) + 1)) : isTree es = false :=
  no_of fun z => by
    have w := (tree_facts z).2.2 ((k : Int) + 1) (by omega) (by omega)
    have st : ∀ m : Nat, wlk es m ((k : Int) + 1) = (k : Int) + 1 := fun m => by
      induction m with
      | zero => rfl
      | succ m ih =>
        rw [wlk_succ, ih]
        unfold stp
        rw [if_pos (by omega), show ((k : Int) + 1 - 1).toNat = k by omega, List.getD_eq_getElem?_getD, h]
        rfl
    rw [st] at w
    omega
theorem isTree_two (row : List Int) : isTree (2 :: 1 :: row) = false :=
  no_of fun z => by
    have w := (tree_facts z).2.2 1 (by omega) (by simp; omega)
    have st : ∀ m : Nat, wlk (2 :: 1 :: row) m 1 = 1 ∨ wlk (2 :: 1 :: row) m 1 = 2 := fun m => by
      induction m with
      | zero => exact .inl rfl
      | succ m ih =>
        rw [wlk_succ]
        rcases ih with e | e <;> rw [e]
        · exact .inr rfl
        · exact .inl rfl
    rcases st (2 :: 1 :: row).length with e | e <;> omega
theorem isCar_big {ns : List Int} {m : Int} (hm : m ∈ ns) (h : (ns.length : Int) ≤ m) : isCar ns = false :=
  no_of fun z => by
    obtain ⟨hne, car⟩ := (isCar_iff ns).mp z
    have hl := List.length_pos_iff.mpr hne
    have few := car.few (ns.length - 1) (by omega)
    have e : ns.countP (fun x => decide (x ≤ ((ns.length - 1 : Nat) : Int))) = ns.length := by
      have := List.countP_le_length (p := fun x => decide (x ≤ ((ns.length - 1 : Nat) : Int))) (l := ns)
      omega
    have := List.countP_eq_length.mp e m hm
    have := of_decide_eq_true this
    omega
theorem isCar_ones {ns : List Int} (h : ∀ x ∈ ns, 1 ≤ x) : isCar ns = false :=
  no_of fun z => by
    obtain ⟨hne, car⟩ := (isCar_iff ns).mp z
    have few := car.few 0 (List.length_pos_iff.mpr hne)
    have e : ns.countP (fun x => decide (x ≤ ((0 : Nat) : Int))) = 0 := List.countP_eq_zero.mpr fun x hx => by
      have := h x hx
      rw [decide_eq_true_iff]
      omega
    omega
theorem isCar_nil : isCar [] = false := rfl
/-- what is no thing of the ring family w -/
noncomputable def Bad (w : Int) (ns : List Int) : Prop := (w = 0 → inC ns = false) ∧ (w = 1 → isTree ns = false) ∧ (w = 2 → isCar ns = false)
theorem bad_row {w : Int} {n k : Nat} (hk : k < n) {z : Int} (h0 : w = 0 → z < 0 ∨ (n : Int) + 1 < z) (h1 : w = 1 → z < 0 ∨ (n : Int) < z ∨ z = (k : Int) + 1) (h2 : w = 2 → z < 0 ∨ (n : Int) ≤ z) : Bad w ((List.replicate n 0).set k z) := by
  have l : ((List.replicate n (0 : Int)).set k z).length = n := by simp
  have m : z ∈ (List.replicate n (0 : Int)).set k z := List.mem_iff_getElem?.mpr ⟨k, by simp [hk]⟩
  refine ⟨fun e => inC_bad m (by rw [l]; exact h0 e), fun e => ?_, fun e => ?_⟩
  · rcases h1 e with h | h | h
    · exact isTree_out m (.inl h)
    · exact isTree_out m (.inr (by rw [l]; exact h))
    · refine isTree_loop (k := k) (by rw [l]; exact hk) ?_
      rw [h]
      simp [hk]
  · rcases h2 e with h | h
    · exact isCar_neg m h
    · exact isCar_big m (by rw [l]; exact h)
end Ck

set_option Elab.async false
set_option linter.all false
set_option maxRecDepth 100000
/-! The head in one piece: the run of the text's top, looked at where it ends. -/
namespace Ck
open PySem PySem.W PySem.Calls PyProof.Rows
/-- what is asked where the top ends -/
noncomputable def endLook {α : Type} (p q : Program) (loose : List Str) (Xt : Shared → Bool) (Yf : Shared → α) (h0 : Heap) (s : Shared) :=
  ((staticsOk (importedModules p.main.body) h0 s.heap && namesBound p s.heap && gensDone s && laidKept h0 s.heap),
    openSeen q loose (importedModules p.main.body) Xt true s, Yf s)
theorem left_whole {p q : Program} {loose : List Str} {Xt : Shared → Bool} {α : Type} {Yf : Shared → α} {Ya : World → α} {N M m : Nat} {H : Params → Heap} {gs : Array GenState} {dr : Drawn} {tk : Nat} {an : Option Value}
    (o : ∀ w : World, (fencedOpening treeTable p w N).map (fun s => (s.heap, s.gens, s.drawn, s.toks)) = some (H w.params, gs, dr, tk))
    (z : ∀ w : World, ((H w.params).isNs mainGlobals && gs.size == 0, (H w.params).objs.size, (H w.params).nsMap mainGlobals "__annotations__") = (true, m, an))
    (r : ∀ (w : World) (os : OsState), ∃ e, topRun treeTable p w m an M ⟨H w.params, gs, dr, tk, os⟩ (topStub p) = some e ∧ endLook p q loose Xt Yf (H w.params) e = (true, openGood q loose, Ya w))
    (le : M ≤ N) : LeftO p q loose Xt Yf Ya N := by
  intro w
  have ow := o w
  cases hf : fencedOpening treeTable p w N with
  | none => rw [hf] at ow; cases ow
  | some s =>
    rw [hf] at ow
    have os := Option.some.inj ow
    have e1 : s.heap = H w.params := congrArg Prod.fst os
    have e2 : s.gens = gs := congrArg (fun x => x.2.1) os
    have e3 : s.drawn = dr := congrArg (fun x => x.2.2.1) os
    have e4 : s.toks = tk := congrArg (fun x => x.2.2.2) os
    obtain ⟨e, run, look⟩ := r w s.os
    have hs : s = ⟨H w.params, gs, dr, tk, s.os⟩ := by rw [← e1, ← e2, ← e3, ← e4]
    have run' := topRun_mono (N - M) _ _ _ _ run
    rw [Nat.add_sub_cancel' le] at run'
    have zw := z w
    have z1 := congrArg Prod.fst zw
    have z2 := congrArg (fun x => x.2.1) zw
    have z3 := congrArg (fun x => x.2.2) zw
    dsimp only at z1 z2 z3
    have l1 := congrArg Prod.fst look
    have l2 := congrArg Prod.snd look
    have tf : topFrom treeTable p w N s = some e := by
      rw [hs]
      unfold topFrom
      dsimp only
      rw [z1, z2, z3, run']
      unfold endLook at l1
      dsimp only at l1
      dsimp only [Option.bind]
      rw [l1]
    unfold openEnds
    rw [hf, Option.bind_some, tf]
    exact congrArg some l2
section
variable {tb : String → Option Builtin} {p : Program} {w : World} {m : Nat} {an : Option Value} {env : Env} {q : Pos}
/-- what the run of the text is asked in the end -/
noncomputable def lookEnd {β : Type} (tb : String → Option Builtin) (p : Program) (w : World) (m : Nat) (an : Option Value) (q : Pos) (c : Code) (n4 : Nat) (L : Shared → β) (r : Flow × SharedT × Code × Pos) : Flow × Code × Option β :=
  (r.1, r.2.2.1, (topRun tb p w m an n4 r.2.1.abs ⟨doneF .next, c, r.2.2.2, [topFrame q]⟩).map L)
theorem run_whole {β : Type} {L : Shared → β} {b : List Stmt} {c : Code} {n1 n2 n3 n4 : Nat} {S0 Sa : Shared} {Sb : SharedT} {pos0 pos1 : Pos} {z : β} (hc : c = .body b env)
    (h1 : topGo tb p w m an n1 S0 (topStub p) = some (Sa, ⟨denote tb c, c, pos0, [topFrame q]⟩))
    (h2 : segRun tb p w m an 1 n2 Sa (blockOf b env c pos0 [topFrame q]) = some (.next, Sb.abs, c, pos1))
    (h3 : (segRunT tb p w m an 1 n3 Sb (piecesOf b env c pos1 [topFrame q])).map (lookEnd tb p w m an q c n4 L) = some (.next, c, some z)) :
    ∃ e, topRun tb p w m an (n1 + (n2 + (n3 + n4))) S0 (topStub p) = some e ∧ L e = z := by
  cases hr : segRunT tb p w m an 1 n3 Sb (piecesOf b env c pos1 [topFrame q]) with
  | none => rw [hr] at h3; cases h3
  | some x =>
    obtain ⟨f, s, d, ps⟩ := x
    rw [hr] at h3
    have h3 := Option.some.inj h3
    unfold lookEnd at h3
    have a1 : f = .next := congrArg Prod.fst h3
    have a2 : d = c := congrArg (fun x => x.2.1) h3
    have a3 := congrArg (fun x => x.2.2) h3
    dsimp only at a3
    subst a1 a2 hc
    cases ht : topRun tb p w m an n4 s.abs ⟨doneF .next, .body b env, ps, [topFrame q]⟩ with
    | none => rw [ht] at a3; cases a3
    | some e =>
      rw [ht] at a3
      have k := piece_app (rest := []) (segRun_of hr) (piece_nil ht)
      rw [List.append_nil] at k
      exact ⟨e, go_top h1 (piece_block h2 k), Option.some.inj a3⟩
end
end Ck

set_option maxHeartbeats 4000000
namespace Ck
open PySem L2
noncomputable def top (i : Nat) : Stmt := PySem.Challenge.pw_countkin_k39_rings_refuse.main.body.getD i (.Pass ⟨0, 0, 0, 0⟩)
/-- where the classes and their methods lie -/
structure ClA where
  C_Codes : Addr
  C_Trees : Addr
  C_Cars : Addr
  C_Family : Addr
  C_RingFamily : Addr
  f_Codes__Family___init__ : Addr
  f_Codes__RingFamily___init__ : Addr
  f_Codes____init__ : Addr
  f_Trees__Family___init__ : Addr
  f_Trees__RingFamily___init__ : Addr
  f_Trees____init__ : Addr
  f_Cars__Family___init__ : Addr
  f_Cars__RingFamily___init__ : Addr
  f_Cars____init__ : Addr
  f_Codes__is_one : Addr
  f_Codes__Family_refuse_other : Addr
  f_Codes__Family_number_of : Addr
  f_Trees__is_one : Addr
  f_Trees__Family_refuse_other : Addr
  f_Trees__Family_number_of : Addr
  f_Cars__is_one : Addr
  f_Cars__Family_refuse_other : Addr
  f_Cars__Family_number_of : Addr
  f_Codes__Family_next_of : Addr
  f_Trees__Family_next_of : Addr
  f_Cars__Family_next_of : Addr
  f_Cars__RingFamily_unchecked_many : Addr
  f_Cars__Family_many : Addr
  f_Trees__RingFamily_unchecked_many : Addr
  f_Trees__Family_many : Addr
  f_Codes__RingFamily_unchecked_many : Addr
  f_Codes__Family_many : Addr
  f_Cars__of_code : Addr
  f_Cars__RingFamily_unchecked_thing : Addr
  f_Cars__Family_thing_of : Addr
  f_Trees__of_code : Addr
  f_Trees__RingFamily_unchecked_thing : Addr
  f_Trees__Family_thing_of : Addr
  f_Codes__of_code : Addr
  f_Codes__RingFamily_unchecked_thing : Addr
  f_Codes__Family_thing_of : Addr
  f_Codes__size_of : Addr
  f_Trees__size_of : Addr
  f_Cars__size_of : Addr
structure ClOk (K : PySem.W.Frag) (mg : Str → Option Value) (ca : ClA) : Prop where
  m_Family : mg "Family" = some (.ref ca.C_Family)
  m_Codes : mg "Codes" = some (.ref ca.C_Codes)
  m_Trees : mg "Trees" = some (.ref ca.C_Trees)
  m_Cars : mg "Cars" = some (.ref ca.C_Cars)
  m_RingFamily : mg "RingFamily" = some (.ref ca.C_RingFamily)
  c_Codes : Cls K ca.C_Codes
  c_Trees : Cls K ca.C_Trees
  c_Cars : Cls K ca.C_Cars
  mt_Codes_thing_of : Meth K ca.C_Codes "thing_of" ca.f_Codes__Family_thing_of
  mt_Trees_thing_of : Meth K ca.C_Trees "thing_of" ca.f_Trees__Family_thing_of
  mt_Cars_thing_of : Meth K ca.C_Cars "thing_of" ca.f_Cars__Family_thing_of
  mt_Codes_size_of : Meth K ca.C_Codes "size_of" ca.f_Codes__size_of
  mt_Trees_size_of : Meth K ca.C_Trees "size_of" ca.f_Trees__size_of
  mt_Cars_size_of : Meth K ca.C_Cars "size_of" ca.f_Cars__size_of
  mt_Codes_is_one : Meth K ca.C_Codes "is_one" ca.f_Codes__is_one
  mt_Trees_is_one : Meth K ca.C_Trees "is_one" ca.f_Trees__is_one
  mt_Cars_is_one : Meth K ca.C_Cars "is_one" ca.f_Cars__is_one
  mt_Codes_number_of : Meth K ca.C_Codes "number_of" ca.f_Codes__Family_number_of
  mt_Trees_number_of : Meth K ca.C_Trees "number_of" ca.f_Trees__Family_number_of
  mt_Cars_number_of : Meth K ca.C_Cars "number_of" ca.f_Cars__Family_number_of
  mt_Codes_next_of : Meth K ca.C_Codes "next_of" ca.f_Codes__Family_next_of
  mt_Trees_next_of : Meth K ca.C_Trees "next_of" ca.f_Trees__Family_next_of
  mt_Cars_next_of : Meth K ca.C_Cars "next_of" ca.f_Cars__Family_next_of
  mt_Codes_refuse_other : Meth K ca.C_Codes "refuse_other" ca.f_Codes__Family_refuse_other
  mt_Trees_refuse_other : Meth K ca.C_Trees "refuse_other" ca.f_Trees__Family_refuse_other
  mt_Cars_refuse_other : Meth K ca.C_Cars "refuse_other" ca.f_Cars__Family_refuse_other
  mt_Cars_many : Meth K ca.C_Cars "many" ca.f_Cars__Family_many
  mt_Trees_many : Meth K ca.C_Trees "many" ca.f_Trees__Family_many
  mt_Codes_many : Meth K ca.C_Codes "many" ca.f_Codes__Family_many
  mt_Cars_unchecked_many : Meth K ca.C_Cars "unchecked_many" ca.f_Cars__RingFamily_unchecked_many
  mt_Trees_unchecked_many : Meth K ca.C_Trees "unchecked_many" ca.f_Trees__RingFamily_unchecked_many
  mt_Codes_unchecked_many : Meth K ca.C_Codes "unchecked_many" ca.f_Codes__RingFamily_unchecked_many
  mt_Cars_unchecked_thing : Meth K ca.C_Cars "unchecked_thing" ca.f_Cars__RingFamily_unchecked_thing
  mt_Cars_of_code : Meth K ca.C_Cars "of_code" ca.f_Cars__of_code
  mt_Trees_unchecked_thing : Meth K ca.C_Trees "unchecked_thing" ca.f_Trees__RingFamily_unchecked_thing
  mt_Trees_of_code : Meth K ca.C_Trees "of_code" ca.f_Trees__of_code
  mt_Codes_unchecked_thing : Meth K ca.C_Codes "unchecked_thing" ca.f_Codes__RingFamily_unchecked_thing
  mt_Codes_of_code : Meth K ca.C_Codes "of_code" ca.f_Codes__of_code
  mk_Codes : Mk K ca.C_Codes ca.f_Codes____init__
  mk_Trees : Mk K ca.C_Trees ca.f_Trees____init__
  mk_Cars : Mk K ca.C_Cars ca.f_Cars____init__
  cm_RingFamily___init___Codes : ClsM K ca.C_RingFamily "__init__" ca.f_Codes__RingFamily___init__
  cm_Family___init___Codes : ClsM K ca.C_Family "__init__" ca.f_Codes__Family___init__
  cm_RingFamily___init___Trees : ClsM K ca.C_RingFamily "__init__" ca.f_Trees__RingFamily___init__
  cm_Family___init___Trees : ClsM K ca.C_Family "__init__" ca.f_Trees__Family___init__
  cm_RingFamily___init___Cars : ClsM K ca.C_RingFamily "__init__" ca.f_Cars__RingFamily___init__
  cm_Family___init___Cars : ClsM K ca.C_Family "__init__" ca.f_Cars__Family___init__
  na_Codes_word : NoAttr K ca.C_Codes "word"
  na_Codes_least : NoAttr K ca.C_Codes "least"
  na_Trees_word : NoAttr K ca.C_Trees "word"
  na_Trees_least : NoAttr K ca.C_Trees "least"
  na_Cars_word : NoAttr K ca.C_Cars "word"
  na_Cars_least : NoAttr K ca.C_Cars "least"
  in_Codes : InsT K ca.C_Codes
  in_Trees : InsT K ca.C_Trees
  in_Cars : InsT K ca.C_Cars
  kit_Codes_Family : PySem.W.kitOne K (.ref ca.C_Codes) (.ref ca.C_Family) = some true
  kit_Trees_Family : PySem.W.kitOne K (.ref ca.C_Trees) (.ref ca.C_Family) = some true
  kit_Cars_Family : PySem.W.kitOne K (.ref ca.C_Cars) (.ref ca.C_Family) = some true
noncomputable abbrev s__law_cell_at : Stmt := top 36
theorem sc__law_cell_at : FnScope ["_law_script", "_law_k"] ["_law_script", "_law_k"] (defScope s__law_cell_at) := ⟨rfl, rfl, rfl, by decide +kernel, rfl, by decide +kernel, by decide +kernel⟩
noncomputable abbrev s__law_amiss : Stmt := top 43
theorem sc__law_amiss : FnScope ["_law_word", "_law_size", "_law_far", "_law_some", "_law_row", "_law_at"] ["_law_word", "_law_size", "_law_far", "_law_some"] (defScope s__law_amiss) := ⟨rfl, rfl, rfl, by decide +kernel, rfl, by decide +kernel, by decide +kernel⟩
noncomputable abbrev s_Codes__Family___init__ : Stmt := inClass (top 15) 0
theorem sc_Codes__Family___init__ : FnScope ["self", "word", "least"] ["self", "word", "least"] (defScope s_Codes__Family___init__) := ⟨rfl, rfl, rfl, by decide +kernel, rfl, by decide +kernel, by decide +kernel⟩
noncomputable abbrev s_Codes__RingFamily___init__ : Stmt := inClass (top 17) 0
theorem sc_Codes__RingFamily___init__ : FnScope ["self", "word"] ["self", "word"] (defScope s_Codes__RingFamily___init__) := ⟨rfl, rfl, rfl, by decide +kernel, rfl, by decide +kernel, by decide +kernel⟩
noncomputable abbrev s_Codes____init__ : Stmt := inClass (top 20) 0
theorem sc_Codes____init__ : FnScope ["self"] ["self"] (defScope s_Codes____init__) := ⟨rfl, rfl, rfl, by decide +kernel, rfl, by decide +kernel, by decide +kernel⟩
noncomputable abbrev s_Trees__Family___init__ : Stmt := inClass (top 15) 0
theorem sc_Trees__Family___init__ : FnScope ["self", "word", "least"] ["self", "word", "least"] (defScope s_Trees__Family___init__) := ⟨rfl, rfl, rfl, by decide +kernel, rfl, by decide +kernel, by decide +kernel⟩
noncomputable abbrev s_Trees__RingFamily___init__ : Stmt := inClass (top 17) 0
theorem sc_Trees__RingFamily___init__ : FnScope ["self", "word"] ["self", "word"] (defScope s_Trees__RingFamily___init__) := ⟨rfl, rfl, rfl, by decide +kernel, rfl, by decide +kernel, by decide +kernel⟩
noncomputable abbrev s_Trees____init__ : Stmt := inClass (top 27) 0
theorem sc_Trees____init__ : FnScope ["self"] ["self"] (defScope s_Trees____init__) := ⟨rfl, rfl, rfl, by decide +kernel, rfl, by decide +kernel, by decide +kernel⟩
noncomputable abbrev s_Cars__Family___init__ : Stmt := inClass (top 15) 0
theorem sc_Cars__Family___init__ : FnScope ["self", "word", "least"] ["self", "word", "least"] (defScope s_Cars__Family___init__) := ⟨rfl, rfl, rfl, by decide +kernel, rfl, by decide +kernel, by decide +kernel⟩
noncomputable abbrev s_Cars__RingFamily___init__ : Stmt := inClass (top 17) 0
theorem sc_Cars__RingFamily___init__ : FnScope ["self", "word"] ["self", "word"] (defScope s_Cars__RingFamily___init__) := ⟨rfl, rfl, rfl, by decide +kernel, rfl, by decide +kernel, by decide +kernel⟩
noncomputable abbrev s_Cars____init__ : Stmt := inClass (top 22) 0
theorem sc_Cars____init__ : FnScope ["self"] ["self"] (defScope s_Cars____init__) := ⟨rfl, rfl, rfl, by decide +kernel, rfl, by decide +kernel, by decide +kernel⟩
noncomputable abbrev s__law_kin : Stmt := top 37
theorem sc__law_kin : FnScope ["_law_word"] ["_law_word"] (defScope s__law_kin) := ⟨rfl, rfl, rfl, by decide +kernel, rfl, by decide +kernel, by decide +kernel⟩
noncomputable abbrev s_Codes__is_one : Stmt := inClass (top 20) 2
theorem sc_Codes__is_one : FnScope ["self", "thing", "size"] ["self", "thing"] (defScope s_Codes__is_one) := ⟨rfl, rfl, rfl, by decide +kernel, rfl, by decide +kernel, by decide +kernel⟩
noncomputable abbrev s_Codes__Family_refuse_other : Stmt := inClass (top 15) 7
theorem sc_Codes__Family_refuse_other : FnScope ["self", "thing"] ["self", "thing"] (defScope s_Codes__Family_refuse_other) := ⟨rfl, rfl, rfl, by decide +kernel, rfl, by decide +kernel, by decide +kernel⟩
noncomputable abbrev s_Codes__Family_number_of : Stmt := inClass (top 15) 8
theorem sc_Codes__Family_number_of : FnScope ["self", "thing"] ["self", "thing"] (defScope s_Codes__Family_number_of) := ⟨rfl, rfl, rfl, by decide +kernel, rfl, by decide +kernel, by decide +kernel⟩
noncomputable abbrev s_comes_to_0 : Stmt := top 28
theorem sc_comes_to_0 : FnScope ["elders", "knot", "reached", "step"] ["elders", "knot"] (defScope s_comes_to_0) := ⟨rfl, rfl, rfl, by decide +kernel, rfl, by decide +kernel, by decide +kernel⟩
noncomputable abbrev s_Trees__is_one : Stmt := inClass (top 27) 2
theorem sc_Trees__is_one : FnScope ["self", "thing", "size"] ["self", "thing"] (defScope s_Trees__is_one) := ⟨rfl, rfl, rfl, by decide +kernel, rfl, by decide +kernel, by decide +kernel⟩
noncomputable abbrev s_Trees__Family_refuse_other : Stmt := inClass (top 15) 7
theorem sc_Trees__Family_refuse_other : FnScope ["self", "thing"] ["self", "thing"] (defScope s_Trees__Family_refuse_other) := ⟨rfl, rfl, rfl, by decide +kernel, rfl, by decide +kernel, by decide +kernel⟩
noncomputable abbrev s_Trees__Family_number_of : Stmt := inClass (top 15) 8
theorem sc_Trees__Family_number_of : FnScope ["self", "thing"] ["self", "thing"] (defScope s_Trees__Family_number_of) := ⟨rfl, rfl, rfl, by decide +kernel, rfl, by decide +kernel, by decide +kernel⟩
noncomputable abbrev s_Cars__is_one : Stmt := inClass (top 22) 2
theorem sc_Cars__is_one : FnScope ["self", "thing"] ["self", "thing"] (defScope s_Cars__is_one) := ⟨rfl, rfl, rfl, by decide +kernel, rfl, by decide +kernel, by decide +kernel⟩
noncomputable abbrev s_Cars__Family_refuse_other : Stmt := inClass (top 15) 7
theorem sc_Cars__Family_refuse_other : FnScope ["self", "thing"] ["self", "thing"] (defScope s_Cars__Family_refuse_other) := ⟨rfl, rfl, rfl, by decide +kernel, rfl, by decide +kernel, by decide +kernel⟩
noncomputable abbrev s_Cars__Family_number_of : Stmt := inClass (top 15) 8
theorem sc_Cars__Family_number_of : FnScope ["self", "thing"] ["self", "thing"] (defScope s_Cars__Family_number_of) := ⟨rfl, rfl, rfl, by decide +kernel, rfl, by decide +kernel, by decide +kernel⟩
noncomputable abbrev s_Codes__Family_next_of : Stmt := inClass (top 15) 10
theorem sc_Codes__Family_next_of : FnScope ["self", "thing", "number", "size"] ["self", "thing"] (defScope s_Codes__Family_next_of) := ⟨rfl, rfl, rfl, by decide +kernel, rfl, by decide +kernel, by decide +kernel⟩
noncomputable abbrev s_Trees__Family_next_of : Stmt := inClass (top 15) 10
theorem sc_Trees__Family_next_of : FnScope ["self", "thing", "number", "size"] ["self", "thing"] (defScope s_Trees__Family_next_of) := ⟨rfl, rfl, rfl, by decide +kernel, rfl, by decide +kernel, by decide +kernel⟩
noncomputable abbrev s_Cars__Family_next_of : Stmt := inClass (top 15) 10
theorem sc_Cars__Family_next_of : FnScope ["self", "thing", "number", "size"] ["self", "thing"] (defScope s_Cars__Family_next_of) := ⟨rfl, rfl, rfl, by decide +kernel, rfl, by decide +kernel, by decide +kernel⟩
noncomputable abbrev s_code_to_tree : Stmt := top 30
theorem sc_code_to_tree : FnScope ["thing"] ["thing"] (defScope s_code_to_tree) := ⟨rfl, rfl, rfl, by decide +kernel, rfl, by decide +kernel, by decide +kernel⟩
noncomputable abbrev s_code_to_cars : Stmt := top 25
theorem sc_code_to_cars : FnScope ["thing"] ["thing"] (defScope s_code_to_cars) := ⟨rfl, rfl, rfl, by decide +kernel, rfl, by decide +kernel, by decide +kernel⟩
noncomputable abbrev s_tree_to_code : Stmt := top 29
theorem sc_tree_to_code : FnScope ["thing"] ["thing"] (defScope s_tree_to_code) := ⟨rfl, rfl, rfl, by decide +kernel, rfl, by decide +kernel, by decide +kernel⟩
noncomputable abbrev s_tree_to_cars : Stmt := top 33
theorem sc_tree_to_cars : FnScope ["thing", "row", "place"] ["thing"] (defScope s_tree_to_cars) := ⟨rfl, rfl, rfl, by decide +kernel, rfl, by decide +kernel, by decide +kernel⟩
noncomputable abbrev s_cars_to_code : Stmt := top 24
theorem sc_cars_to_code : FnScope ["thing"] ["thing"] (defScope s_cars_to_code) := ⟨rfl, rfl, rfl, by decide +kernel, rfl, by decide +kernel, by decide +kernel⟩
noncomputable abbrev s_cars_to_tree : Stmt := top 34
theorem sc_cars_to_tree : FnScope ["thing", "row", "place"] ["thing"] (defScope s_cars_to_tree) := ⟨rfl, rfl, rfl, by decide +kernel, rfl, by decide +kernel, by decide +kernel⟩
noncomputable abbrev s_parked : Stmt := top 23
theorem sc_parked : FnScope ["thing", "places", "wish", "place"] ["thing"] (defScope s_parked) := ⟨rfl, rfl, rfl, by decide +kernel, rfl, by decide +kernel, by decide +kernel⟩
noncomputable abbrev s__law_asked : Stmt := top 39
theorem sc__law_asked : FnScope ["_law_word", "_law_some", "_law_thing"] ["_law_word", "_law_some", "_law_thing"] (defScope s__law_asked) := ⟨rfl, rfl, rfl, by decide +kernel, rfl, by decide +kernel, by decide +kernel⟩
noncomputable abbrev s__law_classes : Stmt := top 38
theorem sc__law_classes : FnScope ["_law_error", "_law_found"] ["_law_error"] (defScope s__law_classes) := ⟨rfl, rfl, rfl, by decide +kernel, rfl, by decide +kernel, by decide +kernel⟩
noncomputable abbrev s__law_refused : Stmt := top 40
theorem sc__law_refused : FnScope ["_law_word", "_law_some", "_law_thing", "_law_caught", "e"] ["_law_word", "_law_some", "_law_thing"] (defScope s__law_refused) := ⟨rfl, rfl, rfl, by decide +kernel, rfl, by decide +kernel, by decide +kernel⟩
noncomputable abbrev s_ring_many : Stmt := top 2
theorem sc_ring_many : FnScope ["size", "product", "factor"] ["size"] (defScope s_ring_many) := ⟨rfl, rfl, rfl, by decide +kernel, rfl, by decide +kernel, by decide +kernel⟩
noncomputable abbrev s_Cars__RingFamily_unchecked_many : Stmt := inClass (top 17) 3
theorem sc_Cars__RingFamily_unchecked_many : FnScope ["self", "size"] ["self", "size"] (defScope s_Cars__RingFamily_unchecked_many) := ⟨rfl, rfl, rfl, by decide +kernel, rfl, by decide +kernel, by decide +kernel⟩
noncomputable abbrev s_Cars__Family_many : Stmt := inClass (top 15) 6
theorem sc_Cars__Family_many : FnScope ["self", "size"] ["self", "size"] (defScope s_Cars__Family_many) := ⟨rfl, rfl, rfl, by decide +kernel, rfl, by decide +kernel, by decide +kernel⟩
noncomputable abbrev s_Trees__RingFamily_unchecked_many : Stmt := inClass (top 17) 3
theorem sc_Trees__RingFamily_unchecked_many : FnScope ["self", "size"] ["self", "size"] (defScope s_Trees__RingFamily_unchecked_many) := ⟨rfl, rfl, rfl, by decide +kernel, rfl, by decide +kernel, by decide +kernel⟩
noncomputable abbrev s_Trees__Family_many : Stmt := inClass (top 15) 6
theorem sc_Trees__Family_many : FnScope ["self", "size"] ["self", "size"] (defScope s_Trees__Family_many) := ⟨rfl, rfl, rfl, by decide +kernel, rfl, by decide +kernel, by decide +kernel⟩
noncomputable abbrev s_Codes__RingFamily_unchecked_many : Stmt := inClass (top 17) 3
theorem sc_Codes__RingFamily_unchecked_many : FnScope ["self", "size"] ["self", "size"] (defScope s_Codes__RingFamily_unchecked_many) := ⟨rfl, rfl, rfl, by decide +kernel, rfl, by decide +kernel, by decide +kernel⟩
noncomputable abbrev s_Codes__Family_many : Stmt := inClass (top 15) 6
theorem sc_Codes__Family_many : FnScope ["self", "size"] ["self", "size"] (defScope s_Codes__Family_many) := ⟨rfl, rfl, rfl, by decide +kernel, rfl, by decide +kernel, by decide +kernel⟩
noncomputable abbrev s__law_size_refused : Stmt := top 41
theorem sc__law_size_refused : FnScope ["_law_kin_here", "_law_size", "_law_caught", "e"] ["_law_kin_here", "_law_size"] (defScope s__law_size_refused) := ⟨rfl, rfl, rfl, by decide +kernel, rfl, by decide +kernel, by decide +kernel⟩
noncomputable abbrev s_Cars__of_code : Stmt := inClass (top 22) 4
theorem sc_Cars__of_code : FnScope ["self", "code", "ring", "wishes", "step"] ["self", "code"] (defScope s_Cars__of_code) := ⟨rfl, rfl, rfl, by decide +kernel, rfl, by decide +kernel, by decide +kernel⟩
noncomputable abbrev s_number_figures : Stmt := top 19
theorem sc_number_figures : FnScope ["number", "base", "length", "figures", "rest", "place"] ["number", "base", "length"] (defScope s_number_figures) := ⟨rfl, rfl, rfl, by decide +kernel, rfl, by decide +kernel, by decide +kernel⟩
noncomputable abbrev s_Cars__RingFamily_unchecked_thing : Stmt := inClass (top 17) 5
theorem sc_Cars__RingFamily_unchecked_thing : FnScope ["self", "size", "number"] ["self", "size", "number"] (defScope s_Cars__RingFamily_unchecked_thing) := ⟨rfl, rfl, rfl, by decide +kernel, rfl, by decide +kernel, by decide +kernel⟩
noncomputable abbrev s_Cars__Family_thing_of : Stmt := inClass (top 15) 9
theorem sc_Cars__Family_thing_of : FnScope ["self", "size", "number", "most"] ["self", "size", "number"] (defScope s_Cars__Family_thing_of) := ⟨rfl, rfl, rfl, by decide +kernel, rfl, by decide +kernel, by decide +kernel⟩
noncomputable abbrev s_Trees__of_code : Stmt := inClass (top 27) 4
theorem sc_Trees__of_code : FnScope ["self", "code", "written", "there", "elders", "place", "elder", "taken"] ["self", "code"] (defScope s_Trees__of_code) := ⟨rfl, rfl, rfl, by decide +kernel, rfl, by decide +kernel, by decide +kernel⟩
noncomputable abbrev s_Trees__RingFamily_unchecked_thing : Stmt := inClass (top 17) 5
theorem sc_Trees__RingFamily_unchecked_thing : FnScope ["self", "size", "number"] ["self", "size", "number"] (defScope s_Trees__RingFamily_unchecked_thing) := ⟨rfl, rfl, rfl, by decide +kernel, rfl, by decide +kernel, by decide +kernel⟩
noncomputable abbrev s_Trees__Family_thing_of : Stmt := inClass (top 15) 9
theorem sc_Trees__Family_thing_of : FnScope ["self", "size", "number", "most"] ["self", "size", "number"] (defScope s_Trees__Family_thing_of) := ⟨rfl, rfl, rfl, by decide +kernel, rfl, by decide +kernel, by decide +kernel⟩
noncomputable abbrev s_Codes__of_code : Stmt := inClass (top 20) 4
theorem sc_Codes__of_code : FnScope ["self", "code"] ["self", "code"] (defScope s_Codes__of_code) := ⟨rfl, rfl, rfl, by decide +kernel, rfl, by decide +kernel, by decide +kernel⟩
noncomputable abbrev s_Codes__RingFamily_unchecked_thing : Stmt := inClass (top 17) 5
theorem sc_Codes__RingFamily_unchecked_thing : FnScope ["self", "size", "number"] ["self", "size", "number"] (defScope s_Codes__RingFamily_unchecked_thing) := ⟨rfl, rfl, rfl, by decide +kernel, rfl, by decide +kernel, by decide +kernel⟩
noncomputable abbrev s_Codes__Family_thing_of : Stmt := inClass (top 15) 9
theorem sc_Codes__Family_thing_of : FnScope ["self", "size", "number", "most"] ["self", "size", "number"] (defScope s_Codes__Family_thing_of) := ⟨rfl, rfl, rfl, by decide +kernel, rfl, by decide +kernel, by decide +kernel⟩
noncomputable abbrev s__law_number_refused : Stmt := top 42
theorem sc__law_number_refused : FnScope ["_law_kin_here", "_law_size", "_law_number", "_law_caught", "e"] ["_law_kin_here", "_law_size", "_law_number"] (defScope s__law_number_refused) := ⟨rfl, rfl, rfl, by decide +kernel, rfl, by decide +kernel, by decide +kernel⟩
noncomputable abbrev s_Codes__size_of : Stmt := inClass (top 20) 1
theorem sc_Codes__size_of : FnScope ["self", "thing"] ["self", "thing"] (defScope s_Codes__size_of) := ⟨rfl, rfl, rfl, by decide +kernel, rfl, by decide +kernel, by decide +kernel⟩
noncomputable abbrev s_Trees__size_of : Stmt := inClass (top 27) 1
theorem sc_Trees__size_of : FnScope ["self", "thing"] ["self", "thing"] (defScope s_Trees__size_of) := ⟨rfl, rfl, rfl, by decide +kernel, rfl, by decide +kernel, by decide +kernel⟩
noncomputable abbrev s_Cars__size_of : Stmt := inClass (top 22) 1
theorem sc_Cars__size_of : FnScope ["self", "thing"] ["self", "thing"] (defScope s_Cars__size_of) := ⟨rfl, rfl, rfl, by decide +kernel, rfl, by decide +kernel, by decide +kernel⟩
noncomputable abbrev s_law : Stmt := top 44
theorem sc_law : FnScope ["_law_script", "_law_word", "_law_size", "_law_far", "_law_thing", "_law_handed", "_law_some", "_law_kin_here", "_law_many", "_law_k", "_law_none", "_law_good"] ["_law_script"] (defScope s_law) := ⟨rfl, rfl, rfl, by decide +kernel, rfl, by decide +kernel, by decide +kernel⟩
noncomputable def sp__law_cell_at (K : PySem.W.Frag) (_ : ClA) : Sp := fun vs H Q _ => ∃ (a : Addr) (ns : List Int) (k : Int), vs = [.ref a, .int k] ∧ SqL K H a (ns.map V.int) ∧ 0 ≤ k ∧ Q (.int (ns.getD k.toNat 0)) H
noncomputable def sp__law_amiss (K : PySem.W.Frag) (ca : ClA) : Sp := fun vs H Q _ => ∃ (w n f so : Int), vs = [.int w, .int n, .int f, .int so] ∧ 0 ≤ w ∧ w < 3 ∧ 1 ≤ n ∧ n ≤ 38 ∧ 0 ≤ f ∧ 0 ≤ so ∧ so < 400 ∧
  ∀ (p : Addr) (ns : List Int) (H' : Hp), Same H H' → H p = none → H' p = some (.lst (ns.map V.int)) → ns.length < 64 → Bad w ns → Q (.ref p) H'
noncomputable def sp_Codes__Family___init__ (_ : PySem.W.Frag) (ca : ClA) : Sp := fun vs H Q _ => ∃ (x dx : Addr) (w : Str) (l : Int), vs = [.ref x, .str w, .int l] ∧ H x = some (.ins ca.C_Codes dx []) ∧ ∀ (fs : List (Str × V)) (H' : Hp), H' = upd H x (.ins ca.C_Codes dx fs) → Flds fs w l → Q .non H'
noncomputable def sp_Codes__RingFamily___init__ (_ : PySem.W.Frag) (ca : ClA) : Sp := fun vs H Q _ => ∃ (x dx : Addr) (w : Str), vs = [.ref x, .str w] ∧ H x = some (.ins ca.C_Codes dx []) ∧ ∀ (fs : List (Str × V)) (H' : Hp), H' = upd H x (.ins ca.C_Codes dx fs) → Flds fs w 1 → Q .non H'
noncomputable def sp_Codes____init__ (_ : PySem.W.Frag) (ca : ClA) : Sp := fun vs H Q _ => ∃ x dx, vs = [.ref x] ∧ H x = some (.ins ca.C_Codes dx []) ∧ ∀ (fs : List (Str × V)) (H' : Hp), H' = upd H x (.ins ca.C_Codes dx fs) → Flds fs "codes" 1 → Q .non H'
noncomputable def sp_Trees__Family___init__ (_ : PySem.W.Frag) (ca : ClA) : Sp := fun vs H Q _ => ∃ (x dx : Addr) (w : Str) (l : Int), vs = [.ref x, .str w, .int l] ∧ H x = some (.ins ca.C_Trees dx []) ∧ ∀ (fs : List (Str × V)) (H' : Hp), H' = upd H x (.ins ca.C_Trees dx fs) → Flds fs w l → Q .non H'
noncomputable def sp_Trees__RingFamily___init__ (_ : PySem.W.Frag) (ca : ClA) : Sp := fun vs H Q _ => ∃ (x dx : Addr) (w : Str), vs = [.ref x, .str w] ∧ H x = some (.ins ca.C_Trees dx []) ∧ ∀ (fs : List (Str × V)) (H' : Hp), H' = upd H x (.ins ca.C_Trees dx fs) → Flds fs w 1 → Q .non H'
noncomputable def sp_Trees____init__ (_ : PySem.W.Frag) (ca : ClA) : Sp := fun vs H Q _ => ∃ x dx, vs = [.ref x] ∧ H x = some (.ins ca.C_Trees dx []) ∧ ∀ (fs : List (Str × V)) (H' : Hp), H' = upd H x (.ins ca.C_Trees dx fs) → Flds fs "trees" 1 → Q .non H'
noncomputable def sp_Cars__Family___init__ (_ : PySem.W.Frag) (ca : ClA) : Sp := fun vs H Q _ => ∃ (x dx : Addr) (w : Str) (l : Int), vs = [.ref x, .str w, .int l] ∧ H x = some (.ins ca.C_Cars dx []) ∧ ∀ (fs : List (Str × V)) (H' : Hp), H' = upd H x (.ins ca.C_Cars dx fs) → Flds fs w l → Q .non H'
noncomputable def sp_Cars__RingFamily___init__ (_ : PySem.W.Frag) (ca : ClA) : Sp := fun vs H Q _ => ∃ (x dx : Addr) (w : Str), vs = [.ref x, .str w] ∧ H x = some (.ins ca.C_Cars dx []) ∧ ∀ (fs : List (Str × V)) (H' : Hp), H' = upd H x (.ins ca.C_Cars dx fs) → Flds fs w 1 → Q .non H'
noncomputable def sp_Cars____init__ (_ : PySem.W.Frag) (ca : ClA) : Sp := fun vs H Q _ => ∃ x dx, vs = [.ref x] ∧ H x = some (.ins ca.C_Cars dx []) ∧ ∀ (fs : List (Str × V)) (H' : Hp), H' = upd H x (.ins ca.C_Cars dx fs) → Flds fs "cars" 1 → Q .non H'
noncomputable def sp__law_kin (K : PySem.W.Frag) (ca : ClA) : Sp := fun vs H Q _ => ∃ (w : Int), vs = [.int w] ∧ 0 ≤ w ∧ w < 3 ∧
  ∀ (x dx : Addr) (fs : List (Str × V)) (H' : Hp), Same H H' → ((w = 0 → H' x = some (.ins ca.C_Codes dx fs) → Flds fs "codes" 1 → Q (.ref x) H') ∧ (w = 1 → H' x = some (.ins ca.C_Trees dx fs) → Flds fs "trees" 1 → Q (.ref x) H') ∧ (w = 2 → H' x = some (.ins ca.C_Cars dx fs) → Flds fs "cars" 1 → Q (.ref x) H'))
noncomputable def sp_Codes__is_one (K : PySem.W.Frag) (_ : ClA) : Sp := fun vs H Q _ => ∃ (x l : Addr) (cs : List Int), vs = [.ref x, .ref l] ∧ H l = some (.lst (cs.map V.int)) ∧ cs.length ≤ 1000 ∧ ∀ H', Same H H' → Q (.bl (inC cs)) H'
noncomputable def sp_Codes__Family_refuse_other (K : PySem.W.Frag) (ca : ClA) (er : Errs) : Sp := fun vs H Q E => ∃ (x dx : Addr) (fs : List (Str × V)) (l : Addr) (ns : List Int), vs = [.ref x, .ref l] ∧ H x = some (.ins ca.C_Codes dx fs) ∧ Flds fs "codes" 1 ∧ H l = some (.lst (ns.map V.int)) ∧ ns.length < 64 ∧ inC ns = false ∧ ∀ H', Same H H' → E (.ref er.thing) none H'
noncomputable def sp_Codes__Family_number_of (K : PySem.W.Frag) (ca : ClA) (er : Errs) : Sp := fun vs H Q E => ∃ (x dx : Addr) (fs : List (Str × V)) (l : Addr) (ns : List Int), vs = [.ref x, .ref l] ∧ H x = some (.ins ca.C_Codes dx fs) ∧ Flds fs "codes" 1 ∧ H l = some (.lst (ns.map V.int)) ∧ ns.length < 64 ∧ inC ns = false ∧ ∀ H', Same H H' → E (.ref er.thing) none H'
noncomputable def sp_comes_to_0 (K : PySem.W.Frag) (_ : ClA) : Sp := fun vs H Q _ => ∃ (l : Addr) (es : List Int) (r : Int), vs = [.ref l, .int r] ∧ SqL K H l (es.map V.int) ∧ es.length ≤ 1000 ∧ inR es = true ∧ 0 ≤ r ∧ r ≤ (es.length : Int) ∧ Q (.bl (decide (wlk es es.length r = 0))) H
noncomputable def sp_Trees__is_one (K : PySem.W.Frag) (_ : ClA) : Sp := fun vs H Q _ => ∃ (x l : Addr) (ns : List Int), vs = [.ref x, .ref l] ∧ H l = some (.lst (ns.map V.int)) ∧ ns.length ≤ 1000 ∧ ∀ H', Same H H' → Q (.bl (isTree ns)) H'
noncomputable def sp_Trees__Family_refuse_other (K : PySem.W.Frag) (ca : ClA) (er : Errs) : Sp := fun vs H Q E => ∃ (x dx : Addr) (fs : List (Str × V)) (l : Addr) (ns : List Int), vs = [.ref x, .ref l] ∧ H x = some (.ins ca.C_Trees dx fs) ∧ Flds fs "trees" 1 ∧ H l = some (.lst (ns.map V.int)) ∧ ns.length < 64 ∧ isTree ns = false ∧ ∀ H', Same H H' → E (.ref er.thing) none H'
noncomputable def sp_Trees__Family_number_of (K : PySem.W.Frag) (ca : ClA) (er : Errs) : Sp := fun vs H Q E => ∃ (x dx : Addr) (fs : List (Str × V)) (l : Addr) (ns : List Int), vs = [.ref x, .ref l] ∧ H x = some (.ins ca.C_Trees dx fs) ∧ Flds fs "trees" 1 ∧ H l = some (.lst (ns.map V.int)) ∧ ns.length < 64 ∧ isTree ns = false ∧ ∀ H', Same H H' → E (.ref er.thing) none H'
noncomputable def sp_Cars__is_one (K : PySem.W.Frag) (_ : ClA) : Sp := fun vs H Q _ => ∃ (x l : Addr) (ns : List Int), vs = [.ref x, .ref l] ∧ SqL K H l (ns.map V.int) ∧ ns.length < 64 ∧ ∀ H', Same H H' → Q (.bl (isCar ns)) H'
noncomputable def sp_Cars__Family_refuse_other (K : PySem.W.Frag) (ca : ClA) (er : Errs) : Sp := fun vs H Q E => ∃ (x dx : Addr) (fs : List (Str × V)) (l : Addr) (ns : List Int), vs = [.ref x, .ref l] ∧ H x = some (.ins ca.C_Cars dx fs) ∧ Flds fs "cars" 1 ∧ H l = some (.lst (ns.map V.int)) ∧ ns.length < 64 ∧ isCar ns = false ∧ ∀ H', Same H H' → E (.ref er.thing) none H'
noncomputable def sp_Cars__Family_number_of (K : PySem.W.Frag) (ca : ClA) (er : Errs) : Sp := fun vs H Q E => ∃ (x dx : Addr) (fs : List (Str × V)) (l : Addr) (ns : List Int), vs = [.ref x, .ref l] ∧ H x = some (.ins ca.C_Cars dx fs) ∧ Flds fs "cars" 1 ∧ H l = some (.lst (ns.map V.int)) ∧ ns.length < 64 ∧ isCar ns = false ∧ ∀ H', Same H H' → E (.ref er.thing) none H'
noncomputable def sp_Codes__Family_next_of (K : PySem.W.Frag) (ca : ClA) (er : Errs) : Sp := fun vs H Q E => ∃ (x dx : Addr) (fs : List (Str × V)) (l : Addr) (ns : List Int), vs = [.ref x, .ref l] ∧ H x = some (.ins ca.C_Codes dx fs) ∧ Flds fs "codes" 1 ∧ H l = some (.lst (ns.map V.int)) ∧ ns.length < 64 ∧ inC ns = false ∧ ∀ H', Same H H' → E (.ref er.thing) none H'
noncomputable def sp_Trees__Family_next_of (K : PySem.W.Frag) (ca : ClA) (er : Errs) : Sp := fun vs H Q E => ∃ (x dx : Addr) (fs : List (Str × V)) (l : Addr) (ns : List Int), vs = [.ref x, .ref l] ∧ H x = some (.ins ca.C_Trees dx fs) ∧ Flds fs "trees" 1 ∧ H l = some (.lst (ns.map V.int)) ∧ ns.length < 64 ∧ isTree ns = false ∧ ∀ H', Same H H' → E (.ref er.thing) none H'
noncomputable def sp_Cars__Family_next_of (K : PySem.W.Frag) (ca : ClA) (er : Errs) : Sp := fun vs H Q E => ∃ (x dx : Addr) (fs : List (Str × V)) (l : Addr) (ns : List Int), vs = [.ref x, .ref l] ∧ H x = some (.ins ca.C_Cars dx fs) ∧ Flds fs "cars" 1 ∧ H l = some (.lst (ns.map V.int)) ∧ ns.length < 64 ∧ isCar ns = false ∧ ∀ H', Same H H' → E (.ref er.thing) none H'
noncomputable def sp_code_to_tree (K : PySem.W.Frag) (ca : ClA) (er : Errs) : Sp := fun vs H Q E => ∃ (l : Addr) (ns : List Int), vs = [.ref l] ∧ H l = some (.lst (ns.map V.int)) ∧ ns.length < 64 ∧ inC ns = false ∧ ∀ H', Same H H' → E (.ref er.thing) none H'
noncomputable def sp_code_to_cars (K : PySem.W.Frag) (ca : ClA) (er : Errs) : Sp := fun vs H Q E => ∃ (l : Addr) (ns : List Int), vs = [.ref l] ∧ H l = some (.lst (ns.map V.int)) ∧ ns.length < 64 ∧ inC ns = false ∧ ∀ H', Same H H' → E (.ref er.thing) none H'
noncomputable def sp_tree_to_code (K : PySem.W.Frag) (ca : ClA) (er : Errs) : Sp := fun vs H Q E => ∃ (l : Addr) (ns : List Int), vs = [.ref l] ∧ H l = some (.lst (ns.map V.int)) ∧ ns.length < 64 ∧ isTree ns = false ∧ ∀ H', Same H H' → E (.ref er.thing) none H'
noncomputable def sp_tree_to_cars (K : PySem.W.Frag) (ca : ClA) (er : Errs) : Sp := fun vs H Q E => ∃ (l : Addr) (ns : List Int), vs = [.ref l] ∧ H l = some (.lst (ns.map V.int)) ∧ ns.length < 64 ∧ isTree ns = false ∧ ∀ H', Same H H' → E (.ref er.thing) none H'
noncomputable def sp_cars_to_code (K : PySem.W.Frag) (ca : ClA) (er : Errs) : Sp := fun vs H Q E => ∃ (l : Addr) (ns : List Int), vs = [.ref l] ∧ H l = some (.lst (ns.map V.int)) ∧ ns.length < 64 ∧ isCar ns = false ∧ ∀ H', Same H H' → E (.ref er.thing) none H'
noncomputable def sp_cars_to_tree (K : PySem.W.Frag) (ca : ClA) (er : Errs) : Sp := fun vs H Q E => ∃ (l : Addr) (ns : List Int), vs = [.ref l] ∧ H l = some (.lst (ns.map V.int)) ∧ ns.length < 64 ∧ isCar ns = false ∧ ∀ H', Same H H' → E (.ref er.thing) none H'
noncomputable def sp_parked (K : PySem.W.Frag) (ca : ClA) (er : Errs) : Sp := fun vs H Q E => ∃ (l : Addr) (ns : List Int), vs = [.ref l] ∧ H l = some (.lst (ns.map V.int)) ∧ ns.length < 64 ∧ isCar ns = false ∧ ∀ H', Same H H' → E (.ref er.thing) none H'
noncomputable def sp__law_asked (K : PySem.W.Frag) (ca : ClA) (er : Errs) : Sp := fun vs H Q E => ∃ (w so : Int) (l : Addr) (ns : List Int), vs = [.int w, .int so, .ref l] ∧ 0 ≤ w ∧ w < 3 ∧ 0 ≤ so ∧ (w = 2 → so < 5) ∧ (w ≠ 2 → so < 4) ∧ H l = some (.lst (ns.map V.int)) ∧ ns.length < 64 ∧ Bad w ns ∧ ∀ H', Same H H' → E (.ref er.thing) none H'
noncomputable def sp__law_classes (_ : PySem.W.Frag) (_ : ClA) (er : Errs) : Sp := fun vs H Q _ => ∃ (e c : Addr) (t : Str), vs = [.ref e] ∧ H e = some (excO e (.ref c)) ∧ ((c = er.size ∧ t = Str.ofString "size") ∨ (c = er.number ∧ t = Str.ofString "number") ∨ (c = er.thing ∧ t = Str.ofString "thing")) ∧
  ∀ (p : Addr) (H' : Hp), Same H H' → H p = none → H' p = some (.lst [.str t]) → Q (.ref p) H'
noncomputable def sp__law_refused (K : PySem.W.Frag) (ca : ClA) (er : Errs) : Sp := fun vs H Q _ => ∃ (w so : Int) (l : Addr) (ns : List Int), vs = [.int w, .int so, .ref l] ∧ 0 ≤ w ∧ w < 3 ∧ 0 ≤ so ∧ (w = 2 → so < 5) ∧ (w ≠ 2 → so < 4) ∧ H l = some (.lst (ns.map V.int)) ∧ ns.length < 64 ∧ Bad w ns ∧
  ∀ (p : Addr) (H' : Hp), Same H H' → H p = none → H' p = some (.lst [.str (Str.ofString "thing")]) → Q (.ref p) H'
noncomputable def sp_ring_many (_ : PySem.W.Frag) (_ : ClA) : Sp := fun vs H Q _ => ∃ n : Int, vs = [.int n] ∧ 1 ≤ n ∧ n ≤ 61 ∧ ∀ H', Same H H' → Q (.int (pw (n + 1) (n - 1).toNat)) H'
noncomputable def sp_Cars__RingFamily_unchecked_many (K : PySem.W.Frag) (_ : ClA) : Sp := fun vs H Q _ => ∃ (x : Addr) (n : Int), vs = [.ref x, .int n] ∧ 1 ≤ n ∧ n ≤ 40 ∧ ∀ H', Same H H' → Q (.int (pw (n + 1) (n - 1).toNat)) H'
noncomputable def sp_Cars__Family_many (K : PySem.W.Frag) (ca : ClA) (er : Errs) : Sp := fun vs H Q E => ∃ (x dx : Addr) (fs : List (Str × V)) (wd : Str) (n : Int), vs = [.ref x, .int n] ∧ H x = some (.ins ca.C_Cars dx fs) ∧ Flds fs wd 1 ∧ (((n < 1 ∨ 40 < n) ∧ E (.ref er.size) none H) ∨ (1 ≤ n ∧ n ≤ 40 ∧ ∀ H', Same H H' → Q (.int (pw (n + 1) (n - 1).toNat)) H'))
noncomputable def sp_Trees__RingFamily_unchecked_many (K : PySem.W.Frag) (_ : ClA) : Sp := fun vs H Q _ => ∃ (x : Addr) (n : Int), vs = [.ref x, .int n] ∧ 1 ≤ n ∧ n ≤ 40 ∧ ∀ H', Same H H' → Q (.int (pw (n + 1) (n - 1).toNat)) H'
noncomputable def sp_Trees__Family_many (K : PySem.W.Frag) (ca : ClA) (er : Errs) : Sp := fun vs H Q E => ∃ (x dx : Addr) (fs : List (Str × V)) (wd : Str) (n : Int), vs = [.ref x, .int n] ∧ H x = some (.ins ca.C_Trees dx fs) ∧ Flds fs wd 1 ∧ (((n < 1 ∨ 40 < n) ∧ E (.ref er.size) none H) ∨ (1 ≤ n ∧ n ≤ 40 ∧ ∀ H', Same H H' → Q (.int (pw (n + 1) (n - 1).toNat)) H'))
noncomputable def sp_Codes__RingFamily_unchecked_many (K : PySem.W.Frag) (_ : ClA) : Sp := fun vs H Q _ => ∃ (x : Addr) (n : Int), vs = [.ref x, .int n] ∧ 1 ≤ n ∧ n ≤ 40 ∧ ∀ H', Same H H' → Q (.int (pw (n + 1) (n - 1).toNat)) H'
noncomputable def sp_Codes__Family_many (K : PySem.W.Frag) (ca : ClA) (er : Errs) : Sp := fun vs H Q E => ∃ (x dx : Addr) (fs : List (Str × V)) (wd : Str) (n : Int), vs = [.ref x, .int n] ∧ H x = some (.ins ca.C_Codes dx fs) ∧ Flds fs wd 1 ∧ (((n < 1 ∨ 40 < n) ∧ E (.ref er.size) none H) ∨ (1 ≤ n ∧ n ≤ 40 ∧ ∀ H', Same H H' → Q (.int (pw (n + 1) (n - 1).toNat)) H'))
noncomputable def sp__law_size_refused (K : PySem.W.Frag) (ca : ClA) (er : Errs) : Sp := fun vs H Q _ => ∃ (x dx : Addr) (fs : List (Str × V)) (wd : Str) (w : Nat) (n : Int), vs = [.ref x, .int n] ∧ w < 3 ∧ (w = 0 → H x = some (.ins ca.C_Codes dx fs)) ∧ (w = 1 → H x = some (.ins ca.C_Trees dx fs)) ∧ (w = 2 → H x = some (.ins ca.C_Cars dx fs)) ∧ Flds fs wd 1 ∧ (n < 1 ∨ 40 < n) ∧
  ∀ (p : Addr) (H' : Hp), Same H H' → H p = none → H' p = some (.lst [.str (Str.ofString "size")]) → Q (.ref p) H'
noncomputable def sp_Cars__of_code (K : PySem.W.Frag) (ca : ClA) : Sp := fun vs H Q _ => ∃ (x dx : Addr) (fs : List (Str × V)) (l : Addr) (cs : List Int), vs = [.ref x, .ref l] ∧ H x = some (.ins ca.C_Cars dx fs) ∧ fs.lookup ("is_one" : Str) = none ∧ H l = some (.lst (cs.map V.int)) ∧ cs.length ≤ 40 ∧
  ∀ (p : Addr) (v : Int) (H' : Hp), Same H H' → H p = none → H' p = some (.lst ((walkR ((cs.length : Int) + 2) v cs).map V.int)) → 0 ≤ v → v < (cs.length : Int) + 2 → Car (walkR ((cs.length : Int) + 2) v cs) → Q (.ref p) H'
noncomputable def sp_number_figures (K : PySem.W.Frag) (_ : ClA) : Sp := fun vs H Q _ => ∃ (m b z : Int), vs = [.int m, .int b, .int z] ∧ 0 < b ∧ b ≤ 1000 ∧ 0 ≤ z ∧ z ≤ 1000 ∧ ∀ (p : Addr) (H' : Hp), Same H H' → H p = none → H' p = some (.lst ((figs b z.toNat m).map V.int)) → Q (.ref p) H'
noncomputable def sp_Cars__RingFamily_unchecked_thing (K : PySem.W.Frag) (ca : ClA) : Sp := fun vs H Q _ => ∃ (x dx : Addr) (fs : List (Str × V)) (wd : Str) (n m : Int), vs = [.ref x, .int n, .int m] ∧ H x = some (.ins ca.C_Cars dx fs) ∧ Flds fs wd 1 ∧ 1 ≤ n ∧ n ≤ 40 ∧ 0 ≤ m ∧ m < pw (n + 1) (n - 1).toNat ∧
  ∀ (p : Addr) (ns : List Int) (H' : Hp), Same H H' → H p = none → H' p = some (.lst (ns.map V.int)) → Rg 2 ns (figs (n + 1) (n - 1).toNat m) → Q (.ref p) H'
noncomputable def sp_Cars__Family_thing_of (K : PySem.W.Frag) (ca : ClA) (er : Errs) : Sp := fun vs H Q E => ∃ (x dx : Addr) (fs : List (Str × V)) (wd : Str) (n m : Int), vs = [.ref x, .int n, .int m] ∧ H x = some (.ins ca.C_Cars dx fs) ∧ Flds fs wd 1 ∧ (((n < 1 ∨ 40 < n) ∧ E (.ref er.size) none H) ∨
  (1 ≤ n ∧ n ≤ 40 ∧ (m < 0 ∨ pw (n + 1) (n - 1).toNat ≤ m) ∧ ∀ H', Same H H' → E (.ref er.number) none H') ∨
  (1 ≤ n ∧ n ≤ 40 ∧ 0 ≤ m ∧ m < pw (n + 1) (n - 1).toNat ∧ ∀ (p : Addr) (ns : List Int) (H' : Hp), Same H H' → H p = none → H' p = some (.lst (ns.map V.int)) → Rg 2 ns (figs (n + 1) (n - 1).toNat m) → Q (.ref p) H'))
noncomputable def sp_Trees__of_code (K : PySem.W.Frag) (_ : ClA) : Sp := fun vs H Q _ => ∃ (x l : Addr) (cs : List Int), vs = [.ref x, .ref l] ∧ H l = some (.lst (cs.map V.int)) ∧ cs.length ≤ 100 ∧
  ∀ (p : Addr) (es ts : List Int) (H' : Hp), Same H H' → H p = none → H' p = some (.lst (es.map V.int)) → es.length = cs.length + 1 → Dec (cs ++ [0]) (knots (cs.length + 1)) ts → ts.map (eld es) = cs ++ [0] → Q (.ref p) H'
noncomputable def sp_Trees__RingFamily_unchecked_thing (K : PySem.W.Frag) (ca : ClA) : Sp := fun vs H Q _ => ∃ (x dx : Addr) (fs : List (Str × V)) (wd : Str) (n m : Int), vs = [.ref x, .int n, .int m] ∧ H x = some (.ins ca.C_Trees dx fs) ∧ Flds fs wd 1 ∧ 1 ≤ n ∧ n ≤ 40 ∧ 0 ≤ m ∧ m < pw (n + 1) (n - 1).toNat ∧
  ∀ (p : Addr) (ns : List Int) (H' : Hp), Same H H' → H p = none → H' p = some (.lst (ns.map V.int)) → Rg 1 ns (figs (n + 1) (n - 1).toNat m) → Q (.ref p) H'
noncomputable def sp_Trees__Family_thing_of (K : PySem.W.Frag) (ca : ClA) (er : Errs) : Sp := fun vs H Q E => ∃ (x dx : Addr) (fs : List (Str × V)) (wd : Str) (n m : Int), vs = [.ref x, .int n, .int m] ∧ H x = some (.ins ca.C_Trees dx fs) ∧ Flds fs wd 1 ∧ (((n < 1 ∨ 40 < n) ∧ E (.ref er.size) none H) ∨
  (1 ≤ n ∧ n ≤ 40 ∧ (m < 0 ∨ pw (n + 1) (n - 1).toNat ≤ m) ∧ ∀ H', Same H H' → E (.ref er.number) none H') ∨
  (1 ≤ n ∧ n ≤ 40 ∧ 0 ≤ m ∧ m < pw (n + 1) (n - 1).toNat ∧ ∀ (p : Addr) (ns : List Int) (H' : Hp), Same H H' → H p = none → H' p = some (.lst (ns.map V.int)) → Rg 1 ns (figs (n + 1) (n - 1).toNat m) → Q (.ref p) H'))
noncomputable def sp_Codes__of_code (K : PySem.W.Frag) (_ : ClA) : Sp := fun vs H Q _ => ∃ (x l : Addr) (ns : List Int), vs = [.ref x, .ref l] ∧ SqL K H l (ns.map V.int) ∧ ∀ (p : Addr) (H' : Hp), Same H H' → H p = none → H' p = some (.lst (ns.map V.int)) → Q (.ref p) H'
noncomputable def sp_Codes__RingFamily_unchecked_thing (K : PySem.W.Frag) (ca : ClA) : Sp := fun vs H Q _ => ∃ (x dx : Addr) (fs : List (Str × V)) (wd : Str) (n m : Int), vs = [.ref x, .int n, .int m] ∧ H x = some (.ins ca.C_Codes dx fs) ∧ Flds fs wd 1 ∧ 1 ≤ n ∧ n ≤ 40 ∧ 0 ≤ m ∧ m < pw (n + 1) (n - 1).toNat ∧
  ∀ (p : Addr) (ns : List Int) (H' : Hp), Same H H' → H p = none → H' p = some (.lst (ns.map V.int)) → Rg 0 ns (figs (n + 1) (n - 1).toNat m) → Q (.ref p) H'
noncomputable def sp_Codes__Family_thing_of (K : PySem.W.Frag) (ca : ClA) (er : Errs) : Sp := fun vs H Q E => ∃ (x dx : Addr) (fs : List (Str × V)) (wd : Str) (n m : Int), vs = [.ref x, .int n, .int m] ∧ H x = some (.ins ca.C_Codes dx fs) ∧ Flds fs wd 1 ∧ (((n < 1 ∨ 40 < n) ∧ E (.ref er.size) none H) ∨
  (1 ≤ n ∧ n ≤ 40 ∧ (m < 0 ∨ pw (n + 1) (n - 1).toNat ≤ m) ∧ ∀ H', Same H H' → E (.ref er.number) none H') ∨
  (1 ≤ n ∧ n ≤ 40 ∧ 0 ≤ m ∧ m < pw (n + 1) (n - 1).toNat ∧ ∀ (p : Addr) (ns : List Int) (H' : Hp), Same H H' → H p = none → H' p = some (.lst (ns.map V.int)) → Rg 0 ns (figs (n + 1) (n - 1).toNat m) → Q (.ref p) H'))
noncomputable def sp__law_number_refused (K : PySem.W.Frag) (ca : ClA) (er : Errs) : Sp := fun vs H Q _ => ∃ (x dx : Addr) (fs : List (Str × V)) (wd : Str) (w : Nat) (n m : Int) (t : Str), vs = [.ref x, .int n, .int m] ∧ w < 3 ∧ (w = 0 → H x = some (.ins ca.C_Codes dx fs)) ∧ (w = 1 → H x = some (.ins ca.C_Trees dx fs)) ∧ (w = 2 → H x = some (.ins ca.C_Cars dx fs)) ∧ Flds fs wd 1 ∧ (((n < 1 ∨ 40 < n) ∧ t = Str.ofString "size") ∨ (1 ≤ n ∧ n ≤ 40 ∧ (m < 0 ∨ pw (n + 1) (n - 1).toNat ≤ m) ∧ t = Str.ofString "number")) ∧
  ∀ (p : Addr) (H' : Hp), Same H H' → H p = none → H' p = some (.lst [.str t]) → Q (.ref p) H'
noncomputable def sp_Codes__size_of (K : PySem.W.Frag) (_ : ClA) : Sp := fun vs H Q _ => ∃ (x l : Addr) (ns cs : List Int), vs = [.ref x, .ref l] ∧ H l = some (.lst (ns.map V.int)) ∧ Rg 0 ns cs ∧ Q (.int ((cs.length : Int) + 1)) H
noncomputable def sp_Trees__size_of (K : PySem.W.Frag) (_ : ClA) : Sp := fun vs H Q _ => ∃ (x l : Addr) (ns cs : List Int), vs = [.ref x, .ref l] ∧ H l = some (.lst (ns.map V.int)) ∧ Rg 1 ns cs ∧ Q (.int ((cs.length : Int) + 1)) H
noncomputable def sp_Cars__size_of (K : PySem.W.Frag) (_ : ClA) : Sp := fun vs H Q _ => ∃ (x l : Addr) (ns cs : List Int), vs = [.ref x, .ref l] ∧ H l = some (.lst (ns.map V.int)) ∧ Rg 2 ns cs ∧ Q (.int ((cs.length : Int) + 1)) H
noncomputable def sp_law (K : PySem.W.Frag) (_ : ClA) (_ : Errs) : Sp := fun vs H Q _ => ∃ (a : Addr) (ns : List Int), vs = [.ref a] ∧ SqL K H a (ns.map V.int) ∧ ns.length ≤ 63 ∧ ∀ H', Q (.bl true) H'
section
variable {P : Program} {w : World} {K : PySem.W.Frag} {mg : Str → Option Value} {base : Heap}
theorem ok__law_cell_at {er : Errs} (EO : ErrOk K mg er) {ca : ClA} (CA : ClOk K mg ca) {f : Addr} {fd : FuncData} (F : Fun K "_law_cell_at" "_law_cell_at" s__law_cell_at f fd) (m_len : mg "len" = none) : FnOk P w K mg base CX0 1 f fd ["_law_script", "_law_k"] (sp__law_cell_at K ca) := by
  refine F.ok sc__law_cell_at (fun vs H Q E h => ?_) (fun cdv A outer s H vs Q E hr h => ?_)
  · obtain ⟨a, ns, k, rfl, hS, h0, q⟩ := h
    rfl
  obtain ⟨a, ns, k, rfl, hS, h0, q⟩ := h
  refine ⟨_, pss_cons (ps_if (pt_cmpR op_lt (pv 1) (pe_callB call_len_seq rfl m_len bb_len (pa_cons (pv 0) pa_nil)) (nomark _)) (pss_one (ps_ret (pe_ix ix_list (pv 0) (pv 1) (fun _ _ => rfl)))) pss_nil)
    (pss_one (ps_ret pe_int)), ?_⟩
  have hl : (ns.map V.int).length = ns.length := List.length_map _
  refine ⟨_, rfl, _, rfl, a, _, rfl, .inl hS, _, _, rfl, rfl, _, rfl, ite2 (fun c => ?_) (fun c => ?_)⟩
  · have c' : k < (((ns.map V.int).length : Nat) : Int) := of_decide_eq_true c
    rw [hl] at c'
    exact ⟨_, rfl, _, rfl, a, _, _, _, rfl, rfl, hS, atI_int h0 c', q⟩
  · have c' : ¬ k < (((ns.map V.int).length : Nat) : Int) := of_decide_eq_false (Bool.eq_false_iff.mpr c)
    rw [hl] at c'
    have e : ns.getD k.toNat 0 = 0 := by rw [List.getD_eq_getElem?_getD, List.getElem?_eq_none (by omega)]; rfl
    rw [e] at q
    exact q
theorem ok__law_amiss {er : Errs} (EO : ErrOk K mg er) {ca : ClA} (CA : ClOk K mg ca) {f : Addr} {fd : FuncData} (F : Fun K "_law_amiss" "_law_amiss" s__law_amiss f fd) (m_int : mg "int" = none) (m_len : mg "len" = none) : FnOk P w K mg base CX0 1 f fd ["_law_word", "_law_size", "_law_far", "_law_some"] (sp__law_amiss K ca) := by
  refine F.ok sc__law_amiss (fun vs H Q E h => ?_) (fun cdv A outer s H vs Q E hr h => ?_)
  · obtain ⟨w, n, f, so, rfl, w0, w3, n1, n38, f0, s0, s4, q⟩ := h
    rfl
  obtain ⟨w, n, f, so, rfl, w0, w3, n1, n38, f0, s0, s4, q⟩ := h
  refine ⟨_, pss_cons (ps_set (i := 4) sc__law_amiss.nd rfl (Or.inl rfl) (pe_op op_rep (pe_lst (pa_cons pe_int pa_nil)) (pe_op op_sub (pv 1) (pe_callTy call_int1 rfl m_int bb_int (pa_cons (pe_cmpR op_eq (pv 0) pe_int (nomark _)) pa_nil)))))
    (pss_cut (ps_if (PW.pt (pw_and (pt_cmpR op_eq (pe_op op_mod (pv 3) pe_int) pe_int (nomark _)) (pw_and1 (pt_cmpR op_eq (pv 0) pe_int (nomark _))))) (pss_one (ps_ret (pe_ix ix_list (pe_lst (pa_cons (pe_lst pa_nil) (pa_cons (pe_op op_cat (pe_lst (pa_cons pe_int (pa_cons pe_int pa_nil))) (pv 4)) pa_nil))) (pe_op op_mod (pv 2) pe_int) (fun _ _ => rfl)))) pss_nil)
    (pss_cut (ps_if (PW.pt (pw_and (pt_cmpR op_eq (pe_op op_mod (pv 3) pe_int) pe_int (nomark _)) (pw_and1 (pt_cmpR op_eq (pv 0) pe_int (nomark _))))) (pss_one (ps_ret (pe_ix ix_list (pe_lst (pa_cons (pe_lst pa_nil) (pa_cons (pe_op op_cat (pe_lst (pa_cons pe_int pa_nil)) (pe_op op_rep (pe_lst (pa_cons pe_int pa_nil)) (pv 1))) pa_nil))) (pe_op op_mod (pv 2) pe_int) (fun _ _ => rfl)))) pss_nil)
    (pss_cons (ps_if (pt_cmpR op_eq (pe_callB call_len_seq rfl m_len bb_len (pa_cons (pv 4) pa_nil)) pe_int (nomark _)) (pss_one (ps_ret (pe_lst (pa_cons (pe_op op_add pe_int (pv 2)) pa_nil)))) pss_nil)
    (pss_cons (ps_set (i := 5) sc__law_amiss.nd rfl (Or.inl rfl) (pe_op op_mod (pe_op op_fdivL (pv 3) pe_int) (pe_callB call_len_seq rfl m_len bb_len (pa_cons (pv 4) pa_nil))))
    (pss_cons (ps_asg (pe_ix ix_list (pe_lst (pa_cons (pe_op op_sub (pe_op op_sub pe_int pe_int) (pv 2)) (pa_cons (pe_op op_add (pe_op op_add (pv 1) pe_int) (pv 2)) (pa_cons (pe_ix ix_list (pe_lst (pa_cons (pe_op op_add (pv 1) pe_int) (pa_cons (pe_op op_add (pv 5) pe_int) (pa_cons (pv 1) pa_nil)))) (pv 0) (fun _ _ => rfl)) (pa_cons (pe_op op_add (pv 1) pe_int) pa_nil))))) (pe_op op_mod (pv 3) pe_int) (fun _ _ => rfl)) (pg_sub (pv 4) (pv 5) set_list))
    (pss_one (ps_ret (pv 4)))))))), ?_⟩
  obtain ⟨k, ek, hk0, hk1, hk2⟩ : ∃ k : Nat, n - (if decide (V.int w = V.int 0) = true then 1 else 0) = (k : Int) ∧ (w = 0 → (k : Int) = n - 1) ∧ (w ≠ 0 → (k : Int) = n) ∧ k ≤ 38 := by
    by_cases h : w = 0
    · refine ⟨(n - 1).toNat, ?_, fun _ => by omega, fun z => absurd h z, by omega⟩
      rw [if_pos (decide_eq_true (congrArg V.int h))]; omega
    · refine ⟨n.toNat, ?_, fun z => absurd z h, fun _ => by omega, by omega⟩
      rw [if_neg (fun z => h (by injection (of_decide_eq_true z)))]; omega
  refine ⟨(by show 1 ≤ sizeLine; decide), fun p0 hp0 => ⟨_, rfl, _, rfl, rfl, .inr ⟨_, rfl, _, _, rfl, rfl, ?_⟩⟩⟩
  try dsimp only
  rw [ek]
  refine ⟨p0, _, _, rfl, rfl, upd_same, by omega, by omega, ?_, fun p1 hp1 => ?_⟩
  · show 1 * ((k : Int)).toNat ≤ sizeLine
    exact sz (by omega)
  rw [rep_one, Int.toNat_natCast]
  have t0 := Same.new (Same.refl H) hp0 (.lst [.int 0])
  have t1 := Same.new t0 hp1 (.lst (List.replicate k (V.int 0)))
  have f1 : H p1 = none := t0.free hp1
  have h1 : upd (upd H p0 (.lst [.int 0])) p1 (.lst (List.replicate k (V.int 0))) p1 = some (.lst ((List.replicate k (0 : Int)).map V.int)) := by rw [upd_same, List.map_replicate]
  generalize upd (upd H p0 (.lst [.int 0])) p1 (.lst (List.replicate k (V.int 0))) = H1 at t1 h1 ⊢
  have lk : ((List.replicate k (0 : Int)).map V.int).length = k := by simp
  have g0 := Int.emod_nonneg f (show (2 : Int) ≠ 0 by decide)
  have g1 := Int.emod_lt_of_pos f (show (0 : Int) < 2 by decide)
  refine ⟨fun σ H' => σ = [some (.int w), some (.int n), some (.int f), some (.int so), some (.ref p1), none] ∧ H1 = H' ∧ ¬ (so % 4 = 3 ∧ w = 1), ?_, ?_⟩
  · refine ⟨_, rfl, _, _, rfl, rfl, pm (by decide), rfl, _, rfl, ?_⟩
    by_cases t3 : so % 4 = 3
    · refine iteP (congrArg V.int t3) ⟨_, rfl, rfl, _, rfl, ?_⟩
      by_cases w1 : w = 1
      · refine iteP (congrArg V.int w1) ⟨Nat.zero_le _, fun pe hpe => ⟨(by show 2 ≤ sizeLine; decide), fun p2 hp2 => ?_⟩⟩
        have a1 := Same.new (Same.refl H1) hpe (.lst [])
        have a2 := Same.new a1 hp2 (.lst [.int 2, .int 1])
        refine ⟨_, rfl, p2, p1, _, _, rfl, rfl, upd_same, a2 _ _ h1, sz (by rw [lk]; simp; omega), fun p3 hp3 => ⟨(by show 2 ≤ sizeLine; decide), fun p4 hp4 => ?_⟩⟩
        have a3 := Same.new a2 hp3 (.lst ([.int 2, .int 1] ++ (List.replicate k (0 : Int)).map V.int))
        have a4 := Same.new a3 hp4 (.lst [.ref pe, .ref p3])
        have j3 := Same.new (Same.refl _) hp4 (.lst [.ref pe, .ref p3])
        have je := ((Same.new (Same.refl _) hp2 (.lst [.int 2, .int 1])).trans (Same.new (Same.refl _) hp3 (.lst ([.int 2, .int 1] ++ (List.replicate k (0 : Int)).map V.int)))).trans j3
        rcases (by omega : f % 2 = 0 ∨ f % 2 = 1) with e | e
        · refine ⟨_, rfl, _, _, rfl, rfl, pm (by decide), p4, _, _, _, rfl, rfl, SqL.of upd_same, (by show atI _ (f % 2) = _; rw [e]; rfl), ?_⟩
          exact q pe [] _ (t1.trans a4) (t1.free hpe) (je _ _ upd_same) (by simp) ⟨fun z => by omega, fun _ => isTree_nil, fun z => by omega⟩
        · refine ⟨_, rfl, _, _, rfl, rfl, pm (by decide), p4, _, _, _, rfl, rfl, SqL.of upd_same, (by show atI _ (f % 2) = _; rw [e]; rfl), ?_⟩
          exact q p3 (2 :: 1 :: List.replicate k 0) _ (t1.trans a4) ((t1.trans a2).free hp3) (j3 _ _ upd_same) (by simp; omega) ⟨fun z => by omega, fun _ => isTree_two _, fun z => by omega⟩
      · exact iteN (fun z => w1 (by injection z)) ⟨rfl, rfl, fun h => w1 h.2⟩
    · exact iteN (fun z => t3 (by injection z)) (iteF ⟨rfl, rfl, fun h => t3 h.1⟩)
  rintro σ H' ⟨rfl, rfl, c1⟩
  refine ⟨fun σ H' => σ = [some (.int w), some (.int n), some (.int f), some (.int so), some (.ref p1), none] ∧ H1 = H' ∧ ¬ (so % 4 = 3 ∧ w = 2), ?_, ?_⟩
  · refine ⟨_, rfl, _, _, rfl, rfl, pm (by decide), rfl, _, rfl, ?_⟩
    by_cases t3 : so % 4 = 3
    · refine iteP (congrArg V.int t3) ⟨_, rfl, rfl, _, rfl, ?_⟩
      by_cases w1 : w = 2
      · refine iteP (congrArg V.int w1) ⟨Nat.zero_le _, fun pe hpe => ⟨(by show 1 ≤ sizeLine; decide), fun p2 hp2 => ⟨(by show 1 ≤ sizeLine; decide), fun p5 hp5 => ?_⟩⟩⟩
        have a1 := Same.new (Same.refl H1) hpe (.lst [])
        have a2 := Same.new a1 hp2 (.lst [.int 1])
        have a5 := Same.new a2 hp5 (.lst [.int 1])
        refine ⟨_, rfl, p5, _, _, rfl, rfl, upd_same, by omega, by omega, ?_, fun p6 hp6 => ?_⟩
        · show 1 * n.toNat ≤ sizeLine
          exact sz (by omega)
        rw [rep_one]
        have a6 := Same.new a5 hp6 (.lst (List.replicate n.toNat (V.int 1)))
        have i26 := (Same.new (Same.refl _) hp5 (.lst [.int 1])).trans (Same.new (Same.refl _) hp6 (.lst (List.replicate n.toNat (V.int 1))))
        have h2 := i26 _ _ (upd_same (H := upd H1 pe (.lst [])) (a := p2) (o := .lst [.int 1]))
        refine ⟨p2, p6, _, _, rfl, rfl, h2, upd_same, sz (by simp; omega), fun p3 hp3 => ⟨(by show 2 ≤ sizeLine; decide), fun p4 hp4 => ?_⟩⟩
        have a3 := Same.new a6 hp3 (.lst ([.int 1] ++ List.replicate n.toNat (V.int 1)))
        have a4 := Same.new a3 hp4 (.lst [.ref pe, .ref p3])
        have j3 := Same.new (Same.refl _) hp4 (.lst [.ref pe, .ref p3])
        have je := (((Same.new (Same.refl _) hp2 (.lst [.int 1])).trans i26).trans (Same.new (Same.refl _) hp3 (.lst ([.int 1] ++ List.replicate n.toNat (V.int 1))))).trans j3
        rcases (by omega : f % 2 = 0 ∨ f % 2 = 1) with e | e
        · refine ⟨_, rfl, _, _, rfl, rfl, pm (by decide), p4, _, _, _, rfl, rfl, SqL.of upd_same, (by show atI _ (f % 2) = _; rw [e]; rfl), ?_⟩
          exact q pe [] _ (t1.trans a4) (t1.free hpe) (je _ _ upd_same) (by simp) ⟨fun z => by omega, fun z => by omega, fun _ => isCar_nil⟩
        · refine ⟨_, rfl, _, _, rfl, rfl, pm (by decide), p4, _, _, _, rfl, rfl, SqL.of upd_same, (by show atI _ (f % 2) = _; rw [e]; rfl), ?_⟩
          refine q p3 (1 :: List.replicate n.toNat 1) _ (t1.trans a4) ((t1.trans a6).free hp3) ?_ (by simp; omega) ⟨fun z => by omega, fun z => by omega, fun _ => isCar_ones fun x hx => ?_⟩
          · rw [List.map_cons, List.map_replicate]
            exact j3 _ _ upd_same
          · rcases List.mem_cons.mp hx with z | z
            · omega
            · have := List.eq_of_mem_replicate z
              omega
      · exact iteN (fun z => w1 (by injection z)) ⟨rfl, rfl, fun h => w1 h.2⟩
    · exact iteN (fun z => t3 (by injection z)) (iteF ⟨rfl, rfl, fun h => t3 h.1⟩)
  rintro σ H' ⟨rfl, rfl, c2⟩
  refine ⟨_, rfl, p1, _, rfl, .inl (SqL.of h1), rfl, _, rfl, ?_⟩
  by_cases k0 : k = 0
  · refine iteP (congrArg V.int (by rw [lk]; omega)) ⟨_, rfl, _, _, rfl, rfl, (by show 1 ≤ sizeLine; decide), fun p hp => ?_⟩
    have e0 : w = 0 := by
      by_cases z : w = 0
      · exact z
      · have := hk1 z; omega
    exact q p [3 + f] _ (Same.new t1 hp _) (t1.free hp) upd_same (by simp) ⟨fun _ => inC_bad (c := 3 + f) (by simp) (.inr (by simp; omega)), fun z => by omega, fun z => by omega⟩
  refine iteN (fun z => k0 (by injection z with z; rw [lk] at z; omega)) ?_
  have j0 := Int.emod_nonneg (so / 4) (show (((List.replicate k (0 : Int)).map V.int).length : Int) ≠ 0 by rw [lk]; omega)
  have j1 := Int.emod_lt_of_pos (so / 4) (show 0 < (((List.replicate k (0 : Int)).map V.int).length : Int) by rw [lk]; omega)
  refine ⟨_, rfl, _, _, rfl, rfl, ⟨by decide, by decide +kernel⟩, _, rfl, p1, _, rfl, .inl (SqL.of h1), _, _, rfl, rfl, (by rw [lk]; omega), ?_⟩
  try dsimp only
  generalize so / 4 % (((List.replicate k (0 : Int)).map V.int).length : Int) = j at j0 j1 ⊢
  rw [lk] at j1
  obtain ⟨v, ev, hv0, hv1, hv2⟩ : ∃ v, atI [V.int (n + 1), V.int (j + 1), V.int n] w = some (.int v) ∧ (w = 0 → v = n + 1) ∧ (w = 1 → v = j + 1) ∧ (w = 2 → v = n) := by
    rcases (by omega : w = 0 ∨ w = 1 ∨ w = 2) with e | e | e <;> rw [e]
    · exact ⟨n + 1, rfl, fun _ => rfl, fun z => absurd z (by decide), fun z => absurd z (by decide)⟩
    · exact ⟨j + 1, rfl, fun z => absurd z (by decide), fun _ => rfl, fun z => absurd z (by decide)⟩
    · exact ⟨n, rfl, fun z => absurd z (by decide), fun z => absurd z (by decide), fun _ => rfl⟩
  have r0 := Int.emod_nonneg so (show (4 : Int) ≠ 0 by decide)
  have r1 := Int.emod_lt_of_pos so (show (0 : Int) < 4 by decide)
  obtain ⟨z, ez, bad⟩ : ∃ z, atI [V.int (0 - 1 - f), V.int (n + 1 + f), V.int v, V.int (n + 1)] (so % 4) = some (.int z) ∧ Bad w ((List.replicate k 0).set j.toNat z) := by
    rcases (by omega : so % 4 = 0 ∨ so % 4 = 1 ∨ so % 4 = 2 ∨ so % 4 = 3) with e | e | e | e <;> rw [e]
    · exact ⟨0 - 1 - f, rfl, bad_row (by omega) (fun _ => .inl (by omega)) (fun _ => .inl (by omega)) (fun _ => .inl (by omega))⟩
    · exact ⟨n + 1 + f, rfl, bad_row (by omega) (fun h => .inr (by have := hk0 h; omega)) (fun h => .inr (.inl (by have := hk1 (by omega); omega))) (fun h => .inr (by have := hk1 (by omega); omega))⟩
    · exact ⟨v, rfl, bad_row (by omega) (fun h => .inr (by have := hk0 h; have := hv0 h; omega)) (fun h => .inr (.inr (by have := hv1 h; omega))) (fun h => .inr (by have := hk1 (by omega); have := hv2 h; omega))⟩
    · exact ⟨n + 1, rfl, bad_row (by omega) (fun h => .inr (by have := hk0 h; omega)) (fun h => absurd ⟨e, h⟩ c1) (fun h => absurd ⟨e, h⟩ c2)⟩
  refine ⟨_, _, rfl, rfl, _, rfl, _, _, rfl, rfl, _, rfl, _, _, rfl, rfl, _, rfl, _, _, rfl, rfl, _, rfl, _, _, rfl, rfl, _, rfl, _, _, rfl, rfl, _, rfl, (by show 3 ≤ sizeLine; decide), fun pi hpi => ?_⟩
  have b1 := Same.new (Same.refl H1) hpi (.lst [.int (n + 1), .int (j + 1), .int n])
  refine ⟨_, rfl, pi, _, _, _, rfl, rfl, SqL.of upd_same, ev, _, rfl, _, _, rfl, rfl, (by show 4 ≤ sizeLine; decide), fun po hpo => ?_⟩
  have b2 := Same.new b1 hpo (.lst [.int (0 - 1 - f), .int (n + 1 + f), .int v, .int (n + 1)])
  have hj : ixN ((List.replicate k (0 : Int)).map V.int).length j = some j.toNat := by
    rw [lk]
    unfold ixN
    rw [if_pos j0, if_pos (by omega)]
  refine ⟨_, rfl, _, _, rfl, rfl, pm (by decide), po, _, _, _, rfl, rfl, SqL.of upd_same, ez, _, rfl, _, rfl, p1, _, _, _, rfl, rfl, b2 _ _ h1, hj, ?_⟩
  refine ⟨_, rfl, q p1 _ _ ((t1.trans b2).upd f1 _) f1 ?_ (by simp; omega) bad⟩
  rw [upd_same, List.map_set]
theorem ok_Codes__Family___init__ {er : Errs} (EO : ErrOk K mg er) {ca : ClA} (CA : ClOk K mg ca) {fd : FuncData} (F : Fun K "__init__" "Family.__init__" s_Codes__Family___init__ ca.f_Codes__Family___init__ fd) : FnOk P w K mg base CX0 1 ca.f_Codes__Family___init__ fd ["self", "word", "least"] (sp_Codes__Family___init__ K ca) := by
  refine F.ok sc_Codes__Family___init__ (fun vs H Q E h => ?_) (fun cdv A outer s H vs Q E hr h => ?_)
  · obtain ⟨x, dx, w, l, rfl, hx, q⟩ := h
    rfl
  obtain ⟨x, dx, w, l, rfl, hx, q⟩ := h
  refine ⟨_, pss_cons (ps_fld (pv 0) (pv 1) rfl)
    (pss_one (ps_fld (pv 0) (pv 2) rfl)), ?_⟩
  refine ⟨_, rfl, _, rfl, x, ca.C_Codes, dx, _, rfl, hx, CA.c_Codes, CA.na_Codes_word, (by show 0 < 1000; decide), ?_⟩
  refine ⟨_, rfl, _, rfl, x, ca.C_Codes, dx, _, rfl, upd_same, CA.c_Codes, CA.na_Codes_least, (by show 1 < 1000; decide), ?_⟩
  exact q _ _ upd_upd (flds_mk w l)
theorem ok_Codes__RingFamily___init__ {er : Errs} (EO : ErrOk K mg er) {ca : ClA} (CA : ClOk K mg ca) {fd : FuncData} (F : Fun K "__init__" "RingFamily.__init__" s_Codes__RingFamily___init__ ca.f_Codes__RingFamily___init__ fd) {fd0 : FuncData} (d_Codes__Family___init__ : MDef P w K mg base ["self", "word", "least"] 1 (sp_Codes__Family___init__ K ca) ca.f_Codes__Family___init__ fd0) : FnOk P w K mg base CX0 3 ca.f_Codes__RingFamily___init__ fd ["self", "word"] (sp_Codes__RingFamily___init__ K ca) := by
  refine F.ok sc_Codes__RingFamily___init__ (fun vs H Q E h => ?_) (fun cdv A outer s H vs Q E hr h => ?_)
  · obtain ⟨x, dx, w, rfl, hx, q⟩ := h
    rfl
  obtain ⟨x, dx, w, rfl, hx, q⟩ := h
  refine ⟨_, pss_one (ps_expr (pcls CA.m_Family CA.cm_Family___init___Codes d_Codes__Family___init__ hr (pa_cons (pv 0) (pa_cons (pv 1) (pa_cons pe_int pa_nil))))), ?_⟩
  exact ⟨_, rfl, _, rfl, x, dx, w, 1, rfl, hx, fun fs H' e f => q fs H' e f⟩
theorem ok_Codes____init__ {er : Errs} (EO : ErrOk K mg er) {ca : ClA} (CA : ClOk K mg ca) {fd : FuncData} (F : Fun K "__init__" "Codes.__init__" s_Codes____init__ ca.f_Codes____init__ fd) {fd0 : FuncData} (d_Codes__RingFamily___init__ : MDef P w K mg base ["self", "word"] 3 (sp_Codes__RingFamily___init__ K ca) ca.f_Codes__RingFamily___init__ fd0) : FnOk P w K mg base CX0 5 ca.f_Codes____init__ fd ["self"] (sp_Codes____init__ K ca) := by
  refine F.ok sc_Codes____init__ (fun vs H Q E h => ?_) (fun cdv A outer s H vs Q E hr h => ?_)
  · obtain ⟨x, dx, rfl, hx, q⟩ := h
    rfl
  obtain ⟨x, dx, rfl, hx, q⟩ := h
  refine ⟨_, pss_one (ps_expr (pcls CA.m_RingFamily CA.cm_RingFamily___init___Codes d_Codes__RingFamily___init__ hr (pa_cons (pv 0) (pa_cons pe_str pa_nil)))), ?_⟩
  exact ⟨_, rfl, x, dx, _, rfl, hx, fun fs H' e f => q fs H' e f⟩
theorem ok_Trees__Family___init__ {er : Errs} (EO : ErrOk K mg er) {ca : ClA} (CA : ClOk K mg ca) {fd : FuncData} (F : Fun K "__init__" "Family.__init__" s_Trees__Family___init__ ca.f_Trees__Family___init__ fd) : FnOk P w K mg base CX0 1 ca.f_Trees__Family___init__ fd ["self", "word", "least"] (sp_Trees__Family___init__ K ca) := by
  refine F.ok sc_Trees__Family___init__ (fun vs H Q E h => ?_) (fun cdv A outer s H vs Q E hr h => ?_)
  · obtain ⟨x, dx, w, l, rfl, hx, q⟩ := h
    rfl
  obtain ⟨x, dx, w, l, rfl, hx, q⟩ := h
  refine ⟨_, pss_cons (ps_fld (pv 0) (pv 1) rfl)
    (pss_one (ps_fld (pv 0) (pv 2) rfl)), ?_⟩
  refine ⟨_, rfl, _, rfl, x, ca.C_Trees, dx, _, rfl, hx, CA.c_Trees, CA.na_Trees_word, (by show 0 < 1000; decide), ?_⟩
  refine ⟨_, rfl, _, rfl, x, ca.C_Trees, dx, _, rfl, upd_same, CA.c_Trees, CA.na_Trees_least, (by show 1 < 1000; decide), ?_⟩
  exact q _ _ upd_upd (flds_mk w l)
theorem ok_Trees__RingFamily___init__ {er : Errs} (EO : ErrOk K mg er) {ca : ClA} (CA : ClOk K mg ca) {fd : FuncData} (F : Fun K "__init__" "RingFamily.__init__" s_Trees__RingFamily___init__ ca.f_Trees__RingFamily___init__ fd) {fd0 : FuncData} (d_Trees__Family___init__ : MDef P w K mg base ["self", "word", "least"] 1 (sp_Trees__Family___init__ K ca) ca.f_Trees__Family___init__ fd0) : FnOk P w K mg base CX0 3 ca.f_Trees__RingFamily___init__ fd ["self", "word"] (sp_Trees__RingFamily___init__ K ca) := by
  refine F.ok sc_Trees__RingFamily___init__ (fun vs H Q E h => ?_) (fun cdv A outer s H vs Q E hr h => ?_)
  · obtain ⟨x, dx, w, rfl, hx, q⟩ := h
    rfl
  obtain ⟨x, dx, w, rfl, hx, q⟩ := h
  refine ⟨_, pss_one (ps_expr (pcls CA.m_Family CA.cm_Family___init___Trees d_Trees__Family___init__ hr (pa_cons (pv 0) (pa_cons (pv 1) (pa_cons pe_int pa_nil))))), ?_⟩
  exact ⟨_, rfl, _, rfl, x, dx, w, 1, rfl, hx, fun fs H' e f => q fs H' e f⟩
theorem ok_Trees____init__ {er : Errs} (EO : ErrOk K mg er) {ca : ClA} (CA : ClOk K mg ca) {fd : FuncData} (F : Fun K "__init__" "Trees.__init__" s_Trees____init__ ca.f_Trees____init__ fd) {fd0 : FuncData} (d_Trees__RingFamily___init__ : MDef P w K mg base ["self", "word"] 3 (sp_Trees__RingFamily___init__ K ca) ca.f_Trees__RingFamily___init__ fd0) : FnOk P w K mg base CX0 5 ca.f_Trees____init__ fd ["self"] (sp_Trees____init__ K ca) := by
  refine F.ok sc_Trees____init__ (fun vs H Q E h => ?_) (fun cdv A outer s H vs Q E hr h => ?_)
  · obtain ⟨x, dx, rfl, hx, q⟩ := h
    rfl
  obtain ⟨x, dx, rfl, hx, q⟩ := h
  refine ⟨_, pss_one (ps_expr (pcls CA.m_RingFamily CA.cm_RingFamily___init___Trees d_Trees__RingFamily___init__ hr (pa_cons (pv 0) (pa_cons pe_str pa_nil)))), ?_⟩
  exact ⟨_, rfl, x, dx, _, rfl, hx, fun fs H' e f => q fs H' e f⟩
theorem ok_Cars__Family___init__ {er : Errs} (EO : ErrOk K mg er) {ca : ClA} (CA : ClOk K mg ca) {fd : FuncData} (F : Fun K "__init__" "Family.__init__" s_Cars__Family___init__ ca.f_Cars__Family___init__ fd) : FnOk P w K mg base CX0 1 ca.f_Cars__Family___init__ fd ["self", "word", "least"] (sp_Cars__Family___init__ K ca) := by
  refine F.ok sc_Cars__Family___init__ (fun vs H Q E h => ?_) (fun cdv A outer s H vs Q E hr h => ?_)
  · obtain ⟨x, dx, w, l, rfl, hx, q⟩ := h
    rfl
  obtain ⟨x, dx, w, l, rfl, hx, q⟩ := h
  refine ⟨_, pss_cons (ps_fld (pv 0) (pv 1) rfl)
    (pss_one (ps_fld (pv 0) (pv 2) rfl)), ?_⟩
  refine ⟨_, rfl, _, rfl, x, ca.C_Cars, dx, _, rfl, hx, CA.c_Cars, CA.na_Cars_word, (by show 0 < 1000; decide), ?_⟩
  refine ⟨_, rfl, _, rfl, x, ca.C_Cars, dx, _, rfl, upd_same, CA.c_Cars, CA.na_Cars_least, (by show 1 < 1000; decide), ?_⟩
  exact q _ _ upd_upd (flds_mk w l)
theorem ok_Cars__RingFamily___init__ {er : Errs} (EO : ErrOk K mg er) {ca : ClA} (CA : ClOk K mg ca) {fd : FuncData} (F : Fun K "__init__" "RingFamily.__init__" s_Cars__RingFamily___init__ ca.f_Cars__RingFamily___init__ fd) {fd0 : FuncData} (d_Cars__Family___init__ : MDef P w K mg base ["self", "word", "least"] 1 (sp_Cars__Family___init__ K ca) ca.f_Cars__Family___init__ fd0) : FnOk P w K mg base CX0 3 ca.f_Cars__RingFamily___init__ fd ["self", "word"] (sp_Cars__RingFamily___init__ K ca) := by
  refine F.ok sc_Cars__RingFamily___init__ (fun vs H Q E h => ?_) (fun cdv A outer s H vs Q E hr h => ?_)
  · obtain ⟨x, dx, w, rfl, hx, q⟩ := h
    rfl
  obtain ⟨x, dx, w, rfl, hx, q⟩ := h
  refine ⟨_, pss_one (ps_expr (pcls CA.m_Family CA.cm_Family___init___Cars d_Cars__Family___init__ hr (pa_cons (pv 0) (pa_cons (pv 1) (pa_cons pe_int pa_nil))))), ?_⟩
  exact ⟨_, rfl, _, rfl, x, dx, w, 1, rfl, hx, fun fs H' e f => q fs H' e f⟩
theorem ok_Cars____init__ {er : Errs} (EO : ErrOk K mg er) {ca : ClA} (CA : ClOk K mg ca) {fd : FuncData} (F : Fun K "__init__" "Cars.__init__" s_Cars____init__ ca.f_Cars____init__ fd) {fd0 : FuncData} (d_Cars__RingFamily___init__ : MDef P w K mg base ["self", "word"] 3 (sp_Cars__RingFamily___init__ K ca) ca.f_Cars__RingFamily___init__ fd0) : FnOk P w K mg base CX0 5 ca.f_Cars____init__ fd ["self"] (sp_Cars____init__ K ca) := by
  refine F.ok sc_Cars____init__ (fun vs H Q E h => ?_) (fun cdv A outer s H vs Q E hr h => ?_)
  · obtain ⟨x, dx, rfl, hx, q⟩ := h
    rfl
  obtain ⟨x, dx, rfl, hx, q⟩ := h
  refine ⟨_, pss_one (ps_expr (pcls CA.m_RingFamily CA.cm_RingFamily___init___Cars d_Cars__RingFamily___init__ hr (pa_cons (pv 0) (pa_cons pe_str pa_nil)))), ?_⟩
  exact ⟨_, rfl, x, dx, _, rfl, hx, fun fs H' e f => q fs H' e f⟩
theorem ok__law_kin {er : Errs} (EO : ErrOk K mg er) {ca : ClA} (CA : ClOk K mg ca) {f : Addr} {fd : FuncData} (F : Fun K "_law_kin" "_law_kin" s__law_kin f fd) {fd0 : FuncData} (d_Codes____init__ : MDef P w K mg base ["self"] 5 (sp_Codes____init__ K ca) ca.f_Codes____init__ fd0) {fd1 : FuncData} (d_Trees____init__ : MDef P w K mg base ["self"] 5 (sp_Trees____init__ K ca) ca.f_Trees____init__ fd1) {fd2 : FuncData} (d_Cars____init__ : MDef P w K mg base ["self"] 5 (sp_Cars____init__ K ca) ca.f_Cars____init__ fd2) : FnOk P w K mg base CX0 7 f fd ["_law_word"] (sp__law_kin K ca) := by
  refine F.ok sc__law_kin (fun vs H Q E h => ?_) (fun cdv A outer s H vs Q E hr h => ?_)
  · obtain ⟨w, rfl, w0, w3, q⟩ := h
    rfl
  obtain ⟨w, rfl, w0, w3, q⟩ := h
  refine ⟨_, pss_cons (ps_if (pt_cmpR op_eq (pv 0) pe_int (nomark _)) (pss_one (ps_ret (pmake0 CA.mk_Codes CA.m_Codes d_Codes____init__ hr))) pss_nil)
    (pss_cons (ps_if (pt_cmpR op_eq (pv 0) pe_int (nomark _)) (pss_one (ps_ret (pmake0 CA.mk_Trees CA.m_Trees d_Trees____init__ hr))) pss_nil)
    (pss_one (ps_ret (pmake0 CA.mk_Cars CA.m_Cars d_Cars____init__ hr)))), ?_⟩
  refine ⟨_, rfl, rfl, _, rfl, ?_⟩
  by_cases h0 : w = 0
  · refine iteP (congrArg V.int h0) ?_
    intro x dx nx ndx nex
    refine ⟨x, dx, rfl, upd_same, fun fsx Hx1 ex fx => ⟨rfl, ?_⟩⟩
    have sx : Same H Hx1 := by rw [ex]; exact ((Same.new (Same.refl H) ndx _).upd nx _).upd nx _
    have hx : Hx1 x = some (.ins ca.C_Codes dx fsx) := by rw [ex]; exact upd_same

    exact (q x dx fsx Hx1 sx).1 h0 hx fx
  refine iteN (fun z => h0 (by injection z)) ⟨_, rfl, rfl, _, rfl, ?_⟩
  by_cases h1 : w = 1
  · refine iteP (congrArg V.int h1) ?_
    intro x dx nx ndx nex
    refine ⟨x, dx, rfl, upd_same, fun fsx Hx1 ex fx => ⟨rfl, ?_⟩⟩
    have sx : Same H Hx1 := by rw [ex]; exact ((Same.new (Same.refl H) ndx _).upd nx _).upd nx _
    have hx : Hx1 x = some (.ins ca.C_Trees dx fsx) := by rw [ex]; exact upd_same

    exact (q x dx fsx Hx1 sx).2.1 h1 hx fx
  refine iteN (fun z => h1 (by injection z)) ?_
  intro x dx nx ndx nex
  refine ⟨x, dx, rfl, upd_same, fun fsx Hx1 ex fx => ⟨rfl, ?_⟩⟩
  have sx : Same H Hx1 := by rw [ex]; exact ((Same.new (Same.refl H) ndx _).upd nx _).upd nx _
  have hx : Hx1 x = some (.ins ca.C_Cars dx fsx) := by rw [ex]; exact upd_same

  exact (q x dx fsx Hx1 sx).2.2 (by omega) hx fx
theorem ok_Codes__is_one {er : Errs} (EO : ErrOk K mg er) {ca : ClA} (CA : ClOk K mg ca) {fd : FuncData} (F : Fun K "is_one" "Codes.is_one" s_Codes__is_one ca.f_Codes__is_one fd) (m_len : mg "len" = none) (m_all : mg "all" = none) : FnOk P w K mg base CX0 1 ca.f_Codes__is_one fd ["self", "thing"] (sp_Codes__is_one K ca) := by
  refine F.ok sc_Codes__is_one (fun vs H Q E h => ?_) (fun cdv A outer s H vs Q E hr h => ?_)
  · obtain ⟨x, l, cs, rfl, hl, hz, q⟩ := h
    rfl
  obtain ⟨x, l, cs, rfl, hl, hz, q⟩ := h
  refine ⟨_, pss_cons (ps_set (i := 2) sc_Codes__is_one.nd rfl (Or.inr rfl) (pe_op op_add (pe_callB call_len_seq rfl m_len bb_len (pa_cons (pv 1) pa_nil)) pe_int))
    (pss_one (ps_ret (pe_callB (call_all rfl) rfl m_all bb_all (pa_cons (pe_comp rfl (pi_list (pv 1)) rfl rfl rfl rfl (N := ["number", "size"]) (.own (.cap (j := 2) rfl rfl rfl .nil)) (fun _ _ _ _ _ _ => (pg_name (i := 0) (by show List.Nodup (["number", "size"] : List Str); decide +kernel) rfl (Or.inl rfl))) (fun _ _ _ _ _ _ => pts_nil) (fun _ _ _ _ _ _ => (pe_chain op_le op_le pe_int (pv 0) (pv 1)))) pa_nil)))), ?_⟩
  have lm : (cs.map V.int).length = cs.length := List.length_map _
  refine ⟨_, rfl, l, _, rfl, .inl (SqL.of hl), _, _, rfl, rfl, ?_⟩
  try dsimp only
  rw [lm]
  refine ⟨_, rfl, l, rfl, ⟨_, SqL.of hl⟩, fun D hD => comp_list (fun v => match v with | .int c => .bl (decide (0 ≤ c) && decide (c ≤ (cs.length : Int) + 1)) | v => v) (by rw [lm]; exact sz (by omega)) (SqL.of hl) hD (fun i v H' R R0 hx hb hR => ?_) ?_⟩
  · obtain ⟨c, rfl⟩ := get_int hx
    refine ⟨Ext.set rfl, ttN (iteT ⟨_, rfl, _, _, rfl, rfl, _, rfl, ?_⟩)⟩
    by_cases h0 : 0 ≤ c
    · refine iteP h0 ⟨_, rfl, _, _, rfl, rfl, ?_⟩
      have hR' : R (.bl (decide (0 ≤ c) && decide (c ≤ (cs.length : Int) + 1))) H' := hR
      rw [decide_eq_true h0, Bool.true_and] at hR'
      exact hR'
    · refine iteN h0 ?_
      have hR' : R (.bl (decide (0 ≤ c) && decide (c ≤ (cs.length : Int) + 1))) H' := hR
      rw [decide_eq_false h0, Bool.false_and] at hR'
      exact hR'
  have em : (cs.map V.int).map (fun v => match v with | .int c => .bl (decide (0 ≤ c) && decide (c ≤ (cs.length : Int) + 1)) | v => v) = (cs.map fun c => decide (0 ≤ c) && decide (c ≤ (cs.length : Int) + 1)).map V.bl := by rw [List.map_map, List.map_map]; rfl
  rw [em]
  refine ⟨D, _, rfl, SqL.of upd_same, ?_⟩
  have ea : (cs.map fun c => decide (0 ≤ c) && decide (c ≤ (cs.length : Int) + 1)).all id = cs.all fun c => decide (0 ≤ c) && decide (c ≤ (cs.length : Int) + 1) := by rw [List.all_map]; rfl
  rw [ea]
  exact q _ (Same.new (Same.refl H) hD _)
theorem ok_Codes__Family_refuse_other {er : Errs} (EO : ErrOk K mg er) {ca : ClA} (CA : ClOk K mg ca) {fd : FuncData} (F : Fun K "refuse_other" "Family.refuse_other" s_Codes__Family_refuse_other ca.f_Codes__Family_refuse_other fd) {fd0 : FuncData} (d_Codes__is_one : MDef P w K mg base ["self", "thing"] 1 (sp_Codes__is_one K ca) ca.f_Codes__is_one fd0) : FnOk P w K mg base (CX1 P w) 2 ca.f_Codes__Family_refuse_other fd ["self", "thing"] (sp_Codes__Family_refuse_other K ca er) := by
  refine F.okE sc_Codes__Family_refuse_other (fun vs H Q E h => ?_) (fun cdv A outer s H vs Q E hr h => ?_)
  · obtain ⟨x, dx, fs, l, ns, rfl, hx, fl, hl, h64, hB, q⟩ := h
    rfl
  obtain ⟨x, dx, fs, l, ns, rfl, hx, fl, hl, h64, hB, q⟩ := h
  refine ⟨_, pss_one (ps_if (pt_not (pt_val (pmeth (pv 0) CA.c_Codes CA.mt_Codes_is_one d_Codes__is_one hr (pa_cons (pv 1) pa_nil)))) (pss_one (ps_raise thr_def EO.x_thing rfl EO.m_thing (pa_cons pe_str pa_nil))) pss_nil), ?_⟩
  refine ⟨_, rfl, x, dx, fs, rfl, hx, fl.no "is_one" (by decide) (by decide), _, rfl, x, l, ns, rfl, hl, (by omega), fun H1 s1 => ⟨_, rfl, ?_⟩⟩
  rw [hB]
  exact iteT ⟨sz (n := 1) (by decide), q H1 s1⟩
theorem ok_Codes__Family_number_of {er : Errs} (EO : ErrOk K mg er) {ca : ClA} (CA : ClOk K mg ca) {fd : FuncData} (F : Fun K "number_of" "Family.number_of" s_Codes__Family_number_of ca.f_Codes__Family_number_of fd) {fd0 : FuncData} (d_Codes__Family_refuse_other : MDef P w K mg base ["self", "thing"] 2 (sp_Codes__Family_refuse_other K ca er) ca.f_Codes__Family_refuse_other fd0) : FnOk P w K mg base (CX1 P w) 3 ca.f_Codes__Family_number_of fd ["self", "thing"] (sp_Codes__Family_number_of K ca er) := by
  refine F.okE sc_Codes__Family_number_of (fun vs H Q E h => ?_) (fun cdv A outer s H vs Q E hr h => ?_)
  · obtain ⟨x, dx, fs, l, ns, rfl, hx, fl, hl, h64, hB, q⟩ := h
    rfl
  obtain ⟨x, dx, fs, l, ns, rfl, hx, fl, hl, h64, hB, q⟩ := h
  refine ⟨_, pss_cons (ps_expr (pmethT thr_def (pv 0) CA.c_Codes CA.mt_Codes_refuse_other d_Codes__Family_refuse_other hr (pa_cons (pv 1) pa_nil)))
    pss_never, ?_⟩
  exact ⟨_, rfl, x, dx, fs, rfl, hx, fl.no "refuse_other" (by decide) (by decide), _, rfl, x, dx, fs, l, ns, rfl, hx, fl, hl, h64, hB, q⟩
theorem ok_comes_to_0 {er : Errs} (EO : ErrOk K mg er) {ca : ClA} (CA : ClOk K mg ca) {f : Addr} {fd : FuncData} (F : Fun K "comes_to_0" "comes_to_0" s_comes_to_0 f fd) (m_range : mg "range" = none) (m_len : mg "len" = none) : FnOk P w K mg base CX0 1 f fd ["elders", "knot"] (sp_comes_to_0 K ca) := by
  refine F.ok sc_comes_to_0 (fun vs H Q E h => ?_) (fun cdv A outer s H vs Q E hr h => ?_)
  · obtain ⟨l, es, r, rfl, hl, hz, hin, r0, r1, q⟩ := h
    rfl
  obtain ⟨l, es, r, rfl, hl, hz, hin, r0, r1, q⟩ := h
  refine ⟨_, pss_cons (ps_set (i := 2) sc_comes_to_0.nd rfl (Or.inl rfl) (pv 1))
    (pss_cons (ps_for PassesOwn.never rfl (pi_range1 rfl m_range (pa_cons (pe_callB call_len_seq rfl m_len bb_len (pa_cons (pv 0) pa_nil)) pa_nil)) (pg_name (i := 3) sc_comes_to_0.nd rfl (Or.inl rfl)) (pss_one (ps_if (pt_cmpR op_gt (pv 2) pe_int (nomark _)) (pss_one (ps_set (i := 2) sc_comes_to_0.nd rfl (Or.inl rfl) (pe_ix ix_list (pv 0) (pe_op op_sub (pv 2) pe_int) (fun _ _ => rfl)))) pss_nil)))
    (pss_one (ps_ret (pe_cmpR op_eq (pv 2) pe_int (nomark _))))), ?_⟩
  have lm : (es.map V.int).length = es.length := List.length_map _
  refine ⟨_, rfl, _, rfl, l, _, rfl, .inl hl, _, rfl, by omega, by omega, for_range (lo := 0) (n := (((es.map V.int).length : Nat) : Int).toNat) (fun i σ H' => ∃ (o : Option V), σ = [some (.ref l), some (.int r), some (.int (wlk es i r)), o] ∧ H = H') ⟨_, rfl, rfl⟩ ?_ ?_⟩
  · rintro i σ H' hi ⟨o, rfl, rfl⟩
    have b := wlk_in hin i r0 r1
    have es1 := wlk_succ es i r
    generalize wlk es i r = u at b es1
    refine ⟨_, rfl, _, _, rfl, rfl, _, rfl, ?_⟩
    by_cases hu : 0 < u
    · have at1 := atI_int (ns := es) (i := u - 1) (by omega) (by omega)
      refine iteP hu ⟨_, rfl, _, rfl, _, _, rfl, rfl, l, _, _, _, rfl, rfl, hl, at1, ?_⟩
      have e : stp es u = es.getD (u - 1).toNat 0 := by unfold stp; rw [if_pos hu]
      rw [← e, ← es1]
      exact ⟨_, rfl, rfl⟩
    · refine iteN hu ?_
      have e : stp es u = u := by unfold stp; rw [if_neg hu]
      rw [e] at es1
      rw [← es1]
      exact ⟨_, rfl, rfl⟩
  · rintro σ H' ⟨o, rfl, rfl⟩
    refine ⟨_, rfl, rfl, ?_⟩
    rw [show (((es.map V.int).length : Nat) : Int).toNat = es.length by omega, dec_int]
    exact q
theorem ok_Trees__is_one {er : Errs} (EO : ErrOk K mg er) {ca : ClA} (CA : ClOk K mg ca) {fd : FuncData} (F : Fun K "is_one" "Trees.is_one" s_Trees__is_one ca.f_Trees__is_one fd) {f0 : Addr} {fd0 : FuncData} (d_comes_to_0 : Def P w K mg base "comes_to_0" ["elders", "knot"] 1 (sp_comes_to_0 K ca) f0 fd0) (m_len : mg "len" = none) (m_all : mg "all" = none) (m_range : mg "range" = none) : FnOk P w K mg base CX0 2 ca.f_Trees__is_one fd ["self", "thing"] (sp_Trees__is_one K ca) := by
  refine F.ok sc_Trees__is_one (fun vs H Q E h => ?_) (fun cdv A outer s H vs Q E hr h => ?_)
  · obtain ⟨x, l, es, rfl, hl, hz, q⟩ := h
    rfl
  obtain ⟨x, l, es, rfl, hl, hz, q⟩ := h
  refine ⟨_, pss_cons (ps_set (i := 2) sc_Trees__is_one.nd rfl (Or.inr rfl) (pe_callB call_len_seq rfl m_len bb_len (pa_cons (pv 1) pa_nil)))
    (pss_cons (ps_if (PW.pt (pw_or (pt_cmpR op_eq (pv 2) pe_int (nomark _)) (pw_or1 (pt_not (pt_val (pe_callB (call_all rfl) rfl m_all bb_all (pa_cons (pe_comp rfl (pi_list (pv 1)) rfl rfl rfl rfl (N := ["elder", "size"]) (.own (.cap (j := 2) rfl rfl rfl .nil)) (fun _ _ _ _ _ _ => (pg_name (i := 0) (by show List.Nodup (["elder", "size"] : List Str); decide +kernel) rfl (Or.inl rfl))) (fun _ _ _ _ _ _ => pts_nil) (fun _ _ _ _ _ _ => (pe_chain op_le op_le pe_int (pv 0) (pv 1)))) pa_nil))))))) (pss_one (ps_ret pe_bl)) pss_nil)
    (pss_one (ps_ret (pe_callB (call_all rfl) rfl m_all bb_all (pa_cons (pe_comp rfl (pi_range2 rfl m_range (pa_cons pe_int (pa_cons (pe_op op_add (pv 2) pe_int) pa_nil))) rfl rfl rfl rfl (N := ["knot", "thing"]) (.own (.cap (j := 1) rfl rfl rfl .nil)) (fun _ _ _ _ _ _ => (pg_name (i := 0) (by show List.Nodup (["knot", "thing"] : List Str); decide +kernel) rfl (Or.inl rfl))) (fun _ _ _ _ _ _ => pts_nil) (fun _ _ _ _ _ _ => (pcall d_comes_to_0 hr (pa_cons (pv 1) (pa_cons (pv 0) pa_nil))))) pa_nil))))), ?_⟩
  have lm : (es.map V.int).length = es.length := List.length_map _
  refine ⟨_, rfl, l, _, rfl, .inl (SqL.of hl), ?_⟩
  rw [lm]
  refine ⟨_, rfl, rfl, _, rfl, ?_⟩
  by_cases hn : es = []
  · subst hn
    exact iteP rfl (iteT (q _ (Same.refl H)))
  have hpos : 0 < es.length := List.length_pos_iff.mpr hn
  refine iteN (ne_int (by omega)) ?_
  refine ⟨_, rfl, l, rfl, ⟨_, SqL.of hl⟩, fun D hD => comp_list (fun v => match v with | .int c => .bl (decide (0 ≤ c) && decide (c ≤ (es.length : Int))) | v => v) (by rw [lm]; exact sz (by omega)) (SqL.of hl) hD (fun i v H' R R0 hx hb hR => ?_) ?_⟩
  · obtain ⟨c, rfl⟩ := get_int hx
    refine ⟨Ext.set rfl, ttN (iteT ⟨_, rfl, _, _, rfl, rfl, _, rfl, ?_⟩)⟩
    by_cases h0 : 0 ≤ c
    · refine iteP h0 ⟨_, rfl, _, _, rfl, rfl, ?_⟩
      have hR' : R (.bl (decide (0 ≤ c) && decide (c ≤ (es.length : Int)))) H' := hR
      rw [decide_eq_true h0, Bool.true_and] at hR'
      exact hR'
    · refine iteN h0 ?_
      have hR' : R (.bl (decide (0 ≤ c) && decide (c ≤ (es.length : Int)))) H' := hR
      rw [decide_eq_false h0, Bool.false_and] at hR'
      exact hR'
  have em : (es.map V.int).map (fun v => match v with | .int c => .bl (decide (0 ≤ c) && decide (c ≤ (es.length : Int))) | v => v) = (es.map fun c => decide (0 ≤ c) && decide (c ≤ (es.length : Int))).map V.bl := by rw [List.map_map, List.map_map]; rfl
  rw [em]
  have s1 := Same.new (Same.refl H) hD (.lst ((es.map fun c => decide (0 ≤ c) && decide (c ≤ (es.length : Int))).map V.bl))
  refine ⟨D, _, rfl, SqL.of upd_same, _, rfl, ?_⟩
  have ea : (es.map fun c => decide (0 ≤ c) && decide (c ≤ (es.length : Int))).all id = inR es := by rw [List.all_map]; rfl
  rw [ea]
  rw [isTree_cons hn] at q
  cases hin : inR es with
  | false =>
    rw [hin, Bool.false_and] at q
    exact iteT (q _ s1)
  | true =>
    rw [hin, Bool.true_and] at q
    refine iteF ?_
    generalize upd H D (.lst ((es.map fun c => decide (0 ≤ c) && decide (c ≤ (es.length : Int))).map V.bl)) = H1 at s1 ⊢
    have hl1 := s1 _ _ hl
    refine ⟨_, rfl, _, _, rfl, rfl, _, _, rfl, ⟨by decide, by decide, by omega, by omega⟩, fun D2 hD2 => comp_range (lo := 1) (n := ((es.length : Int) + 1 - 1).toNat) (fun (i : Nat) => .bl (cm0 es i)) (sz (by omega)) (fun i H' R R0 hi hb hR => ?_) ?_⟩
    · have nD : l ≠ D2 := ne_of_none hl1 hD2
      have hl3 := (hb l nD).trans hl1
      refine ⟨Ext.set rfl, ttN (iteT ⟨_, rfl, _, rfl, l, es, _, rfl, SqL.of hl3, hz, hin, by omega, by omega, ?_⟩)⟩
      unfold cm0 at hR
      rw [show (1 : Int) + (i : Int) = (i : Int) + 1 by omega]
      exact hR
    · have em2 : (List.range ((es.length : Int) + 1 - 1).toNat).map (fun (i : Nat) => V.bl (cm0 es i)) = ((List.range es.length).map (cm0 es)).map V.bl := by rw [List.map_map, show ((es.length : Int) + 1 - 1).toNat = es.length by omega]; rfl
      rw [em2]
      refine ⟨D2, _, rfl, SqL.of upd_same, ?_⟩
      have ea2 : ((List.range es.length).map (cm0 es)).all id = (List.range es.length).all (cm0 es) := by rw [List.all_map]; rfl
      rw [ea2]
      exact q _ (Same.new s1 hD2 _)
theorem ok_Trees__Family_refuse_other {er : Errs} (EO : ErrOk K mg er) {ca : ClA} (CA : ClOk K mg ca) {fd : FuncData} (F : Fun K "refuse_other" "Family.refuse_other" s_Trees__Family_refuse_other ca.f_Trees__Family_refuse_other fd) {fd0 : FuncData} (d_Trees__is_one : MDef P w K mg base ["self", "thing"] 2 (sp_Trees__is_one K ca) ca.f_Trees__is_one fd0) : FnOk P w K mg base (CX1 P w) 3 ca.f_Trees__Family_refuse_other fd ["self", "thing"] (sp_Trees__Family_refuse_other K ca er) := by
  refine F.okE sc_Trees__Family_refuse_other (fun vs H Q E h => ?_) (fun cdv A outer s H vs Q E hr h => ?_)
  · obtain ⟨x, dx, fs, l, ns, rfl, hx, fl, hl, h64, hB, q⟩ := h
    rfl
  obtain ⟨x, dx, fs, l, ns, rfl, hx, fl, hl, h64, hB, q⟩ := h
  refine ⟨_, pss_one (ps_if (pt_not (pt_val (pmeth (pv 0) CA.c_Trees CA.mt_Trees_is_one d_Trees__is_one hr (pa_cons (pv 1) pa_nil)))) (pss_one (ps_raise thr_def EO.x_thing rfl EO.m_thing (pa_cons pe_str pa_nil))) pss_nil), ?_⟩
  refine ⟨_, rfl, x, dx, fs, rfl, hx, fl.no "is_one" (by decide) (by decide), _, rfl, x, l, ns, rfl, hl, (by omega), fun H1 s1 => ⟨_, rfl, ?_⟩⟩
  rw [hB]
  exact iteT ⟨sz (n := 1) (by decide), q H1 s1⟩
theorem ok_Trees__Family_number_of {er : Errs} (EO : ErrOk K mg er) {ca : ClA} (CA : ClOk K mg ca) {fd : FuncData} (F : Fun K "number_of" "Family.number_of" s_Trees__Family_number_of ca.f_Trees__Family_number_of fd) {fd0 : FuncData} (d_Trees__Family_refuse_other : MDef P w K mg base ["self", "thing"] 3 (sp_Trees__Family_refuse_other K ca er) ca.f_Trees__Family_refuse_other fd0) : FnOk P w K mg base (CX1 P w) 4 ca.f_Trees__Family_number_of fd ["self", "thing"] (sp_Trees__Family_number_of K ca er) := by
  refine F.okE sc_Trees__Family_number_of (fun vs H Q E h => ?_) (fun cdv A outer s H vs Q E hr h => ?_)
  · obtain ⟨x, dx, fs, l, ns, rfl, hx, fl, hl, h64, hB, q⟩ := h
    rfl
  obtain ⟨x, dx, fs, l, ns, rfl, hx, fl, hl, h64, hB, q⟩ := h
  refine ⟨_, pss_cons (ps_expr (pmethT thr_def (pv 0) CA.c_Trees CA.mt_Trees_refuse_other d_Trees__Family_refuse_other hr (pa_cons (pv 1) pa_nil)))
    pss_never, ?_⟩
  exact ⟨_, rfl, x, dx, fs, rfl, hx, fl.no "refuse_other" (by decide) (by decide), _, rfl, x, dx, fs, l, ns, rfl, hx, fl, hl, h64, hB, q⟩
theorem ok_Cars__is_one {er : Errs} (EO : ErrOk K mg er) {ca : ClA} (CA : ClOk K mg ca) {fd : FuncData} (F : Fun K "is_one" "Cars.is_one" s_Cars__is_one ca.f_Cars__is_one fd) (m_min : mg "min" = none) (m_all : mg "all" = none) (m_sorted : mg "sorted" = none) (m_enumerate : mg "enumerate" = none) : FnOk P w K mg base CX0 1 ca.f_Cars__is_one fd ["self", "thing"] (sp_Cars__is_one K ca) := by
  refine F.ok sc_Cars__is_one (fun vs H Q E h => ?_) (fun cdv A outer s H vs Q E hr h => ?_)
  · obtain ⟨x, l, ns, rfl, hl, h64, q⟩ := h
    rfl
  obtain ⟨x, l, ns, rfl, hl, h64, q⟩ := h
  refine ⟨_, pss_cons (ps_if (PW.pt (pw_or (pt_cmpR (op_eq_list (hu0 hr)) (pv 1) (pe_lst pa_nil) (nomark _)) (pw_or1 (pt_cmpR op_lt (pe_callB (call_minL rfl) rfl m_min bb_min (pa_cons (pv 1) pa_nil)) pe_int (nomark _))))) (pss_one (ps_ret pe_bl)) pss_nil)
    (pss_one (ps_ret (pe_callB (call_all rfl) rfl m_all bb_all (pa_cons (pe_comp rfl (pi_enum rfl m_enumerate (pa_cons (pe_callB call_sorted rfl m_sorted bb_sorted (pa_cons (pv 1) pa_nil)) pa_nil)) rfl rfl rfl rfl (N := ["place", "wish"]) (.own (.own .nil)) (fun _ _ _ _ _ _ => (pg_tupK (K := K) (n := 2) rfl rfl (pgs_cons (pg_name (i := 0) (by show List.Nodup (["place", "wish"] : List Str); decide +kernel) rfl (Or.inl rfl)) (pgs_cons (pg_name (i := 1) (by show List.Nodup (["place", "wish"] : List Str); decide +kernel) rfl (Or.inl rfl)) pgs_nil)))) (fun _ _ _ _ _ _ => pts_nil) (fun _ _ _ _ _ _ => (pe_cmpR op_le (pv 1) (pv 0) (nomark _)))) pa_nil)))), ?_⟩
  refine ⟨_, rfl, Nat.zero_le _, fun pe hpe => ?_⟩
  have s1 := Same.new (Same.refl H) hpe (.lst [])
  have hl1 := s1.seq hl
  have he1 : upd H pe (.lst []) pe = some (.lst []) := upd_same
  generalize upd H pe (.lst []) = H1 at s1 hl1 he1 ⊢
  by_cases hne : ns = []
  · subst hne
    exact ⟨l, pe, _, _, rfl, rfl, hl1, SqL.of he1, rfl, rfl, _, rfl, iteT (iteT (q _ s1))⟩
  refine ⟨l, pe, _, _, rfl, rfl, hl1, SqL.of he1, flat_ints ns, rfl, _, rfl, ite2 (fun c => ?_) (fun _ => ⟨_, rfl, l, ns, rfl, hl1, hne, fun m hm hall => ?_⟩)⟩
  · cases ns with
    | nil => exact absurd rfl hne
    | cons n ns => exact absurd c (by intro z; cases z)
  refine ⟨_, _, rfl, rfl, _, rfl, ?_⟩
  by_cases m0 : m < 0
  · refine iteP m0 ?_
    rw [isCar_neg hm m0] at q
    exact q _ s1
  refine iteN m0 ?_
  have hpos : ∀ x ∈ ns, 0 ≤ x := fun x hx => by have := hall x hx; omega
  refine ⟨_, rfl, l, ns, rfl, hl1, h64, fun ps ms hps hp hs => ?_⟩
  have s2 := Same.new s1 hps (.lst (ms.map V.int))
  have hm2 : upd H1 ps (.lst (ms.map V.int)) ps = some (.lst (ms.map V.int)) := upd_same
  generalize upd H1 ps (.lst (ms.map V.int)) = H2 at s2 hm2 ⊢
  have lm : (ms.map V.int).length = ms.length := List.length_map _
  have lms := hp.length_eq
  refine ⟨ps, rfl, ⟨_, SqL.of hm2⟩, fun D hD => comp_enum (xs := ms.map V.int) (fun i ys H' => Same H2 H' ∧ H' D = some (.lst ys) ∧ ys = ((List.range i).map fun (k : Nat) => decide (ms.getD k 0 ≤ (k : Int))).map V.bl) (by rw [lm]; exact sz (by omega)) ⟨Same.new (Same.refl H2) hD _, upd_same, rfl⟩ (fun i ys H' hi h => ⟨SqL.of (h.1 _ _ hm2), ?_⟩) (fun i v ys H' T R R0 hx h hT r r0 => ?_) (fun ys H' h => ?_)⟩
  · rw [h.2.2]; simp
  · obtain ⟨sm, hy, ey⟩ := h
    obtain ⟨c, rfl⟩ := get_int hx
    have hc : ms.getD i 0 = c := by
      rw [List.getElem?_map] at hx
      rw [List.getD_eq_getElem?_getD]
      cases h : ms[i]? with
      | none => rw [h] at hx; cases hx
      | some d => rw [h] at hx; injection hx with hx; injection hx with hx
    have nT : D ≠ T := ne_of_none hy hT
    have hy1 := (upd_ne (o := .tup [.int (i : Int), .int c]) nT).trans hy
    refine ⟨T, _, rfl, SqT.of upd_same, rfl, _, _, rfl, _, _, rfl, rfl, (Ext.set rfl).trans (Ext.set rfl), ttN (iteT ?_)⟩
    refine ⟨_, rfl, _, rfl, _, _, rfl, rfl, ?_⟩
    refine r _ _ hy1 ⟨(Same.new sm hT _).upd hD _, upd_same, ?_⟩
    rw [ey, List.range_succ, List.map_append, List.map_append, ← hc]
    rfl
  · obtain ⟨sm, hy, ey⟩ := h
    subst ey
    refine ⟨D, _, rfl, SqL.of hy, ?_⟩
    rw [lm, isCar_sorted hne hpos hp hs]
    exact q _ (s2.trans sm)
theorem ok_Cars__Family_refuse_other {er : Errs} (EO : ErrOk K mg er) {ca : ClA} (CA : ClOk K mg ca) {fd : FuncData} (F : Fun K "refuse_other" "Family.refuse_other" s_Cars__Family_refuse_other ca.f_Cars__Family_refuse_other fd) {fd0 : FuncData} (d_Cars__is_one : MDef P w K mg base ["self", "thing"] 1 (sp_Cars__is_one K ca) ca.f_Cars__is_one fd0) : FnOk P w K mg base (CX1 P w) 2 ca.f_Cars__Family_refuse_other fd ["self", "thing"] (sp_Cars__Family_refuse_other K ca er) := by
  refine F.okE sc_Cars__Family_refuse_other (fun vs H Q E h => ?_) (fun cdv A outer s H vs Q E hr h => ?_)
  · obtain ⟨x, dx, fs, l, ns, rfl, hx, fl, hl, h64, hB, q⟩ := h
    rfl
  obtain ⟨x, dx, fs, l, ns, rfl, hx, fl, hl, h64, hB, q⟩ := h
  refine ⟨_, pss_one (ps_if (pt_not (pt_val (pmeth (pv 0) CA.c_Cars CA.mt_Cars_is_one d_Cars__is_one hr (pa_cons (pv 1) pa_nil)))) (pss_one (ps_raise thr_def EO.x_thing rfl EO.m_thing (pa_cons pe_str pa_nil))) pss_nil), ?_⟩
  refine ⟨_, rfl, x, dx, fs, rfl, hx, fl.no "is_one" (by decide) (by decide), _, rfl, x, l, ns, rfl, SqL.of hl, h64, fun H1 s1 => ⟨_, rfl, ?_⟩⟩
  rw [hB]
  exact iteT ⟨sz (n := 1) (by decide), q H1 s1⟩
theorem ok_Cars__Family_number_of {er : Errs} (EO : ErrOk K mg er) {ca : ClA} (CA : ClOk K mg ca) {fd : FuncData} (F : Fun K "number_of" "Family.number_of" s_Cars__Family_number_of ca.f_Cars__Family_number_of fd) {fd0 : FuncData} (d_Cars__Family_refuse_other : MDef P w K mg base ["self", "thing"] 2 (sp_Cars__Family_refuse_other K ca er) ca.f_Cars__Family_refuse_other fd0) : FnOk P w K mg base (CX1 P w) 3 ca.f_Cars__Family_number_of fd ["self", "thing"] (sp_Cars__Family_number_of K ca er) := by
  refine F.okE sc_Cars__Family_number_of (fun vs H Q E h => ?_) (fun cdv A outer s H vs Q E hr h => ?_)
  · obtain ⟨x, dx, fs, l, ns, rfl, hx, fl, hl, h64, hB, q⟩ := h
    rfl
  obtain ⟨x, dx, fs, l, ns, rfl, hx, fl, hl, h64, hB, q⟩ := h
  refine ⟨_, pss_cons (ps_expr (pmethT thr_def (pv 0) CA.c_Cars CA.mt_Cars_refuse_other d_Cars__Family_refuse_other hr (pa_cons (pv 1) pa_nil)))
    pss_never, ?_⟩
  exact ⟨_, rfl, x, dx, fs, rfl, hx, fl.no "refuse_other" (by decide) (by decide), _, rfl, x, dx, fs, l, ns, rfl, hx, fl, hl, h64, hB, q⟩
theorem ok_Codes__Family_next_of {er : Errs} (EO : ErrOk K mg er) {ca : ClA} (CA : ClOk K mg ca) {fd : FuncData} (F : Fun K "next_of" "Family.next_of" s_Codes__Family_next_of ca.f_Codes__Family_next_of fd) {fd0 : FuncData} (d_Codes__Family_number_of : MDef P w K mg base ["self", "thing"] 3 (sp_Codes__Family_number_of K ca er) ca.f_Codes__Family_number_of fd0) : FnOk P w K mg base (CX1 P w) 4 ca.f_Codes__Family_next_of fd ["self", "thing"] (sp_Codes__Family_next_of K ca er) := by
  refine F.okE sc_Codes__Family_next_of (fun vs H Q E h => ?_) (fun cdv A outer s H vs Q E hr h => ?_)
  · obtain ⟨x, dx, fs, l, ns, rfl, hx, fl, hl, h64, hB, q⟩ := h
    rfl
  obtain ⟨x, dx, fs, l, ns, rfl, hx, fl, hl, h64, hB, q⟩ := h
  refine ⟨_, pss_cons (ps_set (i := 2) sc_Codes__Family_next_of.nd rfl (Or.inl rfl) (pe_op op_add (pmethT thr_def (pv 0) CA.c_Codes CA.mt_Codes_number_of d_Codes__Family_number_of hr (pa_cons (pv 1) pa_nil)) pe_int))
    pss_never, ?_⟩
  exact ⟨_, rfl, x, dx, fs, rfl, hx, fl.no "number_of" (by decide) (by decide), _, rfl, x, dx, fs, l, ns, rfl, hx, fl, hl, h64, hB, q⟩
theorem ok_Trees__Family_next_of {er : Errs} (EO : ErrOk K mg er) {ca : ClA} (CA : ClOk K mg ca) {fd : FuncData} (F : Fun K "next_of" "Family.next_of" s_Trees__Family_next_of ca.f_Trees__Family_next_of fd) {fd0 : FuncData} (d_Trees__Family_number_of : MDef P w K mg base ["self", "thing"] 4 (sp_Trees__Family_number_of K ca er) ca.f_Trees__Family_number_of fd0) : FnOk P w K mg base (CX1 P w) 5 ca.f_Trees__Family_next_of fd ["self", "thing"] (sp_Trees__Family_next_of K ca er) := by
  refine F.okE sc_Trees__Family_next_of (fun vs H Q E h => ?_) (fun cdv A outer s H vs Q E hr h => ?_)
  · obtain ⟨x, dx, fs, l, ns, rfl, hx, fl, hl, h64, hB, q⟩ := h
    rfl
  obtain ⟨x, dx, fs, l, ns, rfl, hx, fl, hl, h64, hB, q⟩ := h
  refine ⟨_, pss_cons (ps_set (i := 2) sc_Trees__Family_next_of.nd rfl (Or.inl rfl) (pe_op op_add (pmethT thr_def (pv 0) CA.c_Trees CA.mt_Trees_number_of d_Trees__Family_number_of hr (pa_cons (pv 1) pa_nil)) pe_int))
    pss_never, ?_⟩
  exact ⟨_, rfl, x, dx, fs, rfl, hx, fl.no "number_of" (by decide) (by decide), _, rfl, x, dx, fs, l, ns, rfl, hx, fl, hl, h64, hB, q⟩
theorem ok_Cars__Family_next_of {er : Errs} (EO : ErrOk K mg er) {ca : ClA} (CA : ClOk K mg ca) {fd : FuncData} (F : Fun K "next_of" "Family.next_of" s_Cars__Family_next_of ca.f_Cars__Family_next_of fd) {fd0 : FuncData} (d_Cars__Family_number_of : MDef P w K mg base ["self", "thing"] 3 (sp_Cars__Family_number_of K ca er) ca.f_Cars__Family_number_of fd0) : FnOk P w K mg base (CX1 P w) 4 ca.f_Cars__Family_next_of fd ["self", "thing"] (sp_Cars__Family_next_of K ca er) := by
  refine F.okE sc_Cars__Family_next_of (fun vs H Q E h => ?_) (fun cdv A outer s H vs Q E hr h => ?_)
  · obtain ⟨x, dx, fs, l, ns, rfl, hx, fl, hl, h64, hB, q⟩ := h
    rfl
  obtain ⟨x, dx, fs, l, ns, rfl, hx, fl, hl, h64, hB, q⟩ := h
  refine ⟨_, pss_cons (ps_set (i := 2) sc_Cars__Family_next_of.nd rfl (Or.inl rfl) (pe_op op_add (pmethT thr_def (pv 0) CA.c_Cars CA.mt_Cars_number_of d_Cars__Family_number_of hr (pa_cons (pv 1) pa_nil)) pe_int))
    pss_never, ?_⟩
  exact ⟨_, rfl, x, dx, fs, rfl, hx, fl.no "number_of" (by decide) (by decide), _, rfl, x, dx, fs, l, ns, rfl, hx, fl, hl, h64, hB, q⟩
theorem ok_code_to_tree {er : Errs} (EO : ErrOk K mg er) {ca : ClA} (CA : ClOk K mg ca) {f : Addr} {fd : FuncData} (F : Fun K "code_to_tree" "code_to_tree" s_code_to_tree f fd) {fd0 : FuncData} (d_Codes____init__ : MDef P w K mg base ["self"] 5 (sp_Codes____init__ K ca) ca.f_Codes____init__ fd0) {fd1 : FuncData} (d_Codes__Family_refuse_other : MDef P w K mg base ["self", "thing"] 2 (sp_Codes__Family_refuse_other K ca er) ca.f_Codes__Family_refuse_other fd1) : FnOk P w K mg base (CX1 P w) 7 f fd ["thing"] (sp_code_to_tree K ca er) := by
  refine F.okE sc_code_to_tree (fun vs H Q E h => ?_) (fun cdv A outer s H vs Q E hr h => ?_)
  · obtain ⟨l, ns, rfl, hl, h64, hB, q⟩ := h
    rfl
  obtain ⟨l, ns, rfl, hl, h64, hB, q⟩ := h
  refine ⟨_, pss_cons (ps_expr (pmethT thr_def (pmake0 CA.mk_Codes CA.m_Codes d_Codes____init__ hr) CA.c_Codes CA.mt_Codes_refuse_other d_Codes__Family_refuse_other hr (pa_cons (pv 0) pa_nil)))
    pss_never, ?_⟩
  intro x dx nx ndx nex
  refine ⟨x, dx, rfl, upd_same, fun fsx Hx1 ex fx => ⟨rfl, ?_⟩⟩
  have sx : Same H Hx1 := by rw [ex]; exact ((Same.new (Same.refl H) ndx _).upd nx _).upd nx _
  have hx : Hx1 x = some (.ins ca.C_Codes dx fsx) := by rw [ex]; exact upd_same

  exact ⟨x, dx, fsx, rfl, hx, fx.no "refuse_other" (by decide) (by decide), _, rfl, x, dx, fsx, l, ns, rfl, hx, fx, sx _ _ hl, h64, hB, fun H2 s2 => q _ (sx.trans s2)⟩
theorem ok_code_to_cars {er : Errs} (EO : ErrOk K mg er) {ca : ClA} (CA : ClOk K mg ca) {f : Addr} {fd : FuncData} (F : Fun K "code_to_cars" "code_to_cars" s_code_to_cars f fd) {fd0 : FuncData} (d_Codes____init__ : MDef P w K mg base ["self"] 5 (sp_Codes____init__ K ca) ca.f_Codes____init__ fd0) {fd1 : FuncData} (d_Codes__Family_refuse_other : MDef P w K mg base ["self", "thing"] 2 (sp_Codes__Family_refuse_other K ca er) ca.f_Codes__Family_refuse_other fd1) : FnOk P w K mg base (CX1 P w) 7 f fd ["thing"] (sp_code_to_cars K ca er) := by
  refine F.okE sc_code_to_cars (fun vs H Q E h => ?_) (fun cdv A outer s H vs Q E hr h => ?_)
  · obtain ⟨l, ns, rfl, hl, h64, hB, q⟩ := h
    rfl
  obtain ⟨l, ns, rfl, hl, h64, hB, q⟩ := h
  refine ⟨_, pss_cons (ps_expr (pmethT thr_def (pmake0 CA.mk_Codes CA.m_Codes d_Codes____init__ hr) CA.c_Codes CA.mt_Codes_refuse_other d_Codes__Family_refuse_other hr (pa_cons (pv 0) pa_nil)))
    pss_never, ?_⟩
  intro x dx nx ndx nex
  refine ⟨x, dx, rfl, upd_same, fun fsx Hx1 ex fx => ⟨rfl, ?_⟩⟩
  have sx : Same H Hx1 := by rw [ex]; exact ((Same.new (Same.refl H) ndx _).upd nx _).upd nx _
  have hx : Hx1 x = some (.ins ca.C_Codes dx fsx) := by rw [ex]; exact upd_same

  exact ⟨x, dx, fsx, rfl, hx, fx.no "refuse_other" (by decide) (by decide), _, rfl, x, dx, fsx, l, ns, rfl, hx, fx, sx _ _ hl, h64, hB, fun H2 s2 => q _ (sx.trans s2)⟩
theorem ok_tree_to_code {er : Errs} (EO : ErrOk K mg er) {ca : ClA} (CA : ClOk K mg ca) {f : Addr} {fd : FuncData} (F : Fun K "tree_to_code" "tree_to_code" s_tree_to_code f fd) {fd0 : FuncData} (d_Trees____init__ : MDef P w K mg base ["self"] 5 (sp_Trees____init__ K ca) ca.f_Trees____init__ fd0) {fd1 : FuncData} (d_Trees__Family_refuse_other : MDef P w K mg base ["self", "thing"] 3 (sp_Trees__Family_refuse_other K ca er) ca.f_Trees__Family_refuse_other fd1) : FnOk P w K mg base (CX1 P w) 7 f fd ["thing"] (sp_tree_to_code K ca er) := by
  refine F.okE sc_tree_to_code (fun vs H Q E h => ?_) (fun cdv A outer s H vs Q E hr h => ?_)
  · obtain ⟨l, ns, rfl, hl, h64, hB, q⟩ := h
    rfl
  obtain ⟨l, ns, rfl, hl, h64, hB, q⟩ := h
  refine ⟨_, pss_cons (ps_expr (pmethT thr_def (pmake0 CA.mk_Trees CA.m_Trees d_Trees____init__ hr) CA.c_Trees CA.mt_Trees_refuse_other d_Trees__Family_refuse_other hr (pa_cons (pv 0) pa_nil)))
    pss_never, ?_⟩
  intro x dx nx ndx nex
  refine ⟨x, dx, rfl, upd_same, fun fsx Hx1 ex fx => ⟨rfl, ?_⟩⟩
  have sx : Same H Hx1 := by rw [ex]; exact ((Same.new (Same.refl H) ndx _).upd nx _).upd nx _
  have hx : Hx1 x = some (.ins ca.C_Trees dx fsx) := by rw [ex]; exact upd_same

  exact ⟨x, dx, fsx, rfl, hx, fx.no "refuse_other" (by decide) (by decide), _, rfl, x, dx, fsx, l, ns, rfl, hx, fx, sx _ _ hl, h64, hB, fun H2 s2 => q _ (sx.trans s2)⟩
theorem ok_tree_to_cars {er : Errs} (EO : ErrOk K mg er) {ca : ClA} (CA : ClOk K mg ca) {f : Addr} {fd : FuncData} (F : Fun K "tree_to_cars" "tree_to_cars" s_tree_to_cars f fd) {fd0 : FuncData} (d_Trees____init__ : MDef P w K mg base ["self"] 5 (sp_Trees____init__ K ca) ca.f_Trees____init__ fd0) {fd1 : FuncData} (d_Trees__Family_refuse_other : MDef P w K mg base ["self", "thing"] 3 (sp_Trees__Family_refuse_other K ca er) ca.f_Trees__Family_refuse_other fd1) : FnOk P w K mg base (CX1 P w) 7 f fd ["thing"] (sp_tree_to_cars K ca er) := by
  refine F.okE sc_tree_to_cars (fun vs H Q E h => ?_) (fun cdv A outer s H vs Q E hr h => ?_)
  · obtain ⟨l, ns, rfl, hl, h64, hB, q⟩ := h
    rfl
  obtain ⟨l, ns, rfl, hl, h64, hB, q⟩ := h
  refine ⟨_, pss_cons (ps_expr (pmethT thr_def (pmake0 CA.mk_Trees CA.m_Trees d_Trees____init__ hr) CA.c_Trees CA.mt_Trees_refuse_other d_Trees__Family_refuse_other hr (pa_cons (pv 0) pa_nil)))
    pss_never, ?_⟩
  intro x dx nx ndx nex
  refine ⟨x, dx, rfl, upd_same, fun fsx Hx1 ex fx => ⟨rfl, ?_⟩⟩
  have sx : Same H Hx1 := by rw [ex]; exact ((Same.new (Same.refl H) ndx _).upd nx _).upd nx _
  have hx : Hx1 x = some (.ins ca.C_Trees dx fsx) := by rw [ex]; exact upd_same

  exact ⟨x, dx, fsx, rfl, hx, fx.no "refuse_other" (by decide) (by decide), _, rfl, x, dx, fsx, l, ns, rfl, hx, fx, sx _ _ hl, h64, hB, fun H2 s2 => q _ (sx.trans s2)⟩
theorem ok_cars_to_code {er : Errs} (EO : ErrOk K mg er) {ca : ClA} (CA : ClOk K mg ca) {f : Addr} {fd : FuncData} (F : Fun K "cars_to_code" "cars_to_code" s_cars_to_code f fd) {fd0 : FuncData} (d_Cars____init__ : MDef P w K mg base ["self"] 5 (sp_Cars____init__ K ca) ca.f_Cars____init__ fd0) {fd1 : FuncData} (d_Cars__Family_refuse_other : MDef P w K mg base ["self", "thing"] 2 (sp_Cars__Family_refuse_other K ca er) ca.f_Cars__Family_refuse_other fd1) : FnOk P w K mg base (CX1 P w) 7 f fd ["thing"] (sp_cars_to_code K ca er) := by
  refine F.okE sc_cars_to_code (fun vs H Q E h => ?_) (fun cdv A outer s H vs Q E hr h => ?_)
  · obtain ⟨l, ns, rfl, hl, h64, hB, q⟩ := h
    rfl
  obtain ⟨l, ns, rfl, hl, h64, hB, q⟩ := h
  refine ⟨_, pss_cons (ps_expr (pmethT thr_def (pmake0 CA.mk_Cars CA.m_Cars d_Cars____init__ hr) CA.c_Cars CA.mt_Cars_refuse_other d_Cars__Family_refuse_other hr (pa_cons (pv 0) pa_nil)))
    pss_never, ?_⟩
  intro x dx nx ndx nex
  refine ⟨x, dx, rfl, upd_same, fun fsx Hx1 ex fx => ⟨rfl, ?_⟩⟩
  have sx : Same H Hx1 := by rw [ex]; exact ((Same.new (Same.refl H) ndx _).upd nx _).upd nx _
  have hx : Hx1 x = some (.ins ca.C_Cars dx fsx) := by rw [ex]; exact upd_same

  exact ⟨x, dx, fsx, rfl, hx, fx.no "refuse_other" (by decide) (by decide), _, rfl, x, dx, fsx, l, ns, rfl, hx, fx, sx _ _ hl, h64, hB, fun H2 s2 => q _ (sx.trans s2)⟩
theorem ok_cars_to_tree {er : Errs} (EO : ErrOk K mg er) {ca : ClA} (CA : ClOk K mg ca) {f : Addr} {fd : FuncData} (F : Fun K "cars_to_tree" "cars_to_tree" s_cars_to_tree f fd) {fd0 : FuncData} (d_Cars____init__ : MDef P w K mg base ["self"] 5 (sp_Cars____init__ K ca) ca.f_Cars____init__ fd0) {fd1 : FuncData} (d_Cars__Family_refuse_other : MDef P w K mg base ["self", "thing"] 2 (sp_Cars__Family_refuse_other K ca er) ca.f_Cars__Family_refuse_other fd1) : FnOk P w K mg base (CX1 P w) 7 f fd ["thing"] (sp_cars_to_tree K ca er) := by
  refine F.okE sc_cars_to_tree (fun vs H Q E h => ?_) (fun cdv A outer s H vs Q E hr h => ?_)
  · obtain ⟨l, ns, rfl, hl, h64, hB, q⟩ := h
    rfl
  obtain ⟨l, ns, rfl, hl, h64, hB, q⟩ := h
  refine ⟨_, pss_cons (ps_expr (pmethT thr_def (pmake0 CA.mk_Cars CA.m_Cars d_Cars____init__ hr) CA.c_Cars CA.mt_Cars_refuse_other d_Cars__Family_refuse_other hr (pa_cons (pv 0) pa_nil)))
    pss_never, ?_⟩
  intro x dx nx ndx nex
  refine ⟨x, dx, rfl, upd_same, fun fsx Hx1 ex fx => ⟨rfl, ?_⟩⟩
  have sx : Same H Hx1 := by rw [ex]; exact ((Same.new (Same.refl H) ndx _).upd nx _).upd nx _
  have hx : Hx1 x = some (.ins ca.C_Cars dx fsx) := by rw [ex]; exact upd_same

  exact ⟨x, dx, fsx, rfl, hx, fx.no "refuse_other" (by decide) (by decide), _, rfl, x, dx, fsx, l, ns, rfl, hx, fx, sx _ _ hl, h64, hB, fun H2 s2 => q _ (sx.trans s2)⟩
theorem ok_parked {er : Errs} (EO : ErrOk K mg er) {ca : ClA} (CA : ClOk K mg ca) {f : Addr} {fd : FuncData} (F : Fun K "parked" "parked" s_parked f fd) {fd0 : FuncData} (d_Cars____init__ : MDef P w K mg base ["self"] 5 (sp_Cars____init__ K ca) ca.f_Cars____init__ fd0) {fd1 : FuncData} (d_Cars__Family_refuse_other : MDef P w K mg base ["self", "thing"] 2 (sp_Cars__Family_refuse_other K ca er) ca.f_Cars__Family_refuse_other fd1) : FnOk P w K mg base (CX1 P w) 7 f fd ["thing"] (sp_parked K ca er) := by
  refine F.okE sc_parked (fun vs H Q E h => ?_) (fun cdv A outer s H vs Q E hr h => ?_)
  · obtain ⟨l, ns, rfl, hl, h64, hB, q⟩ := h
    rfl
  obtain ⟨l, ns, rfl, hl, h64, hB, q⟩ := h
  refine ⟨_, pss_cons (ps_expr (pmethT thr_def (pmake0 CA.mk_Cars CA.m_Cars d_Cars____init__ hr) CA.c_Cars CA.mt_Cars_refuse_other d_Cars__Family_refuse_other hr (pa_cons (pv 0) pa_nil)))
    pss_never, ?_⟩
  intro x dx nx ndx nex
  refine ⟨x, dx, rfl, upd_same, fun fsx Hx1 ex fx => ⟨rfl, ?_⟩⟩
  have sx : Same H Hx1 := by rw [ex]; exact ((Same.new (Same.refl H) ndx _).upd nx _).upd nx _
  have hx : Hx1 x = some (.ins ca.C_Cars dx fsx) := by rw [ex]; exact upd_same

  exact ⟨x, dx, fsx, rfl, hx, fx.no "refuse_other" (by decide) (by decide), _, rfl, x, dx, fsx, l, ns, rfl, hx, fx, sx _ _ hl, h64, hB, fun H2 s2 => q _ (sx.trans s2)⟩
theorem ok__law_asked {er : Errs} (EO : ErrOk K mg er) {ca : ClA} (CA : ClOk K mg ca) {f : Addr} {fd : FuncData} (F : Fun K "_law_asked" "_law_asked" s__law_asked f fd) {f0 : Addr} {fd0 : FuncData} (d__law_kin : Def P w K mg base "_law_kin" ["_law_word"] 7 (sp__law_kin K ca) f0 fd0) {fd1 : FuncData} (d_Codes__Family_number_of : MDef P w K mg base ["self", "thing"] 3 (sp_Codes__Family_number_of K ca er) ca.f_Codes__Family_number_of fd1) {fd2 : FuncData} (d_Trees__Family_number_of : MDef P w K mg base ["self", "thing"] 4 (sp_Trees__Family_number_of K ca er) ca.f_Trees__Family_number_of fd2) {fd3 : FuncData} (d_Cars__Family_number_of : MDef P w K mg base ["self", "thing"] 3 (sp_Cars__Family_number_of K ca er) ca.f_Cars__Family_number_of fd3) {fd4 : FuncData} (d_Codes__Family_next_of : MDef P w K mg base ["self", "thing"] 4 (sp_Codes__Family_next_of K ca er) ca.f_Codes__Family_next_of fd4) {fd5 : FuncData} (d_Trees__Family_next_of : MDef P w K mg base ["self", "thing"] 5 (sp_Trees__Family_next_of K ca er) ca.f_Trees__Family_next_of fd5) {fd6 : FuncData} (d_Cars__Family_next_of : MDef P w K mg base ["self", "thing"] 4 (sp_Cars__Family_next_of K ca er) ca.f_Cars__Family_next_of fd6) {f7 : Addr} {fd7 : FuncData} (d_code_to_tree : Def P w K mg base "code_to_tree" ["thing"] 7 (sp_code_to_tree K ca er) f7 fd7) {f8 : Addr} {fd8 : FuncData} (d_code_to_cars : Def P w K mg base "code_to_cars" ["thing"] 7 (sp_code_to_cars K ca er) f8 fd8) {f9 : Addr} {fd9 : FuncData} (d_tree_to_code : Def P w K mg base "tree_to_code" ["thing"] 7 (sp_tree_to_code K ca er) f9 fd9) {f10 : Addr} {fd10 : FuncData} (d_tree_to_cars : Def P w K mg base "tree_to_cars" ["thing"] 7 (sp_tree_to_cars K ca er) f10 fd10) {f11 : Addr} {fd11 : FuncData} (d_cars_to_code : Def P w K mg base "cars_to_code" ["thing"] 7 (sp_cars_to_code K ca er) f11 fd11) {f12 : Addr} {fd12 : FuncData} (d_cars_to_tree : Def P w K mg base "cars_to_tree" ["thing"] 7 (sp_cars_to_tree K ca er) f12 fd12) {f13 : Addr} {fd13 : FuncData} (d_parked : Def P w K mg base "parked" ["thing"] 7 (sp_parked K ca er) f13 fd13) : FnOk P w K mg base (CX1 P w) 8 f fd ["_law_word", "_law_some", "_law_thing"] (sp__law_asked K ca er) := by
  refine F.okE sc__law_asked (fun vs H Q E h => ?_) (fun cdv A outer s H vs Q E hr h => ?_)
  · obtain ⟨w, so, l, ns, rfl, w0, w3, s0, s5, s4, hl, h64, bad, q⟩ := h
    rfl
  obtain ⟨w, so, l, ns, rfl, w0, w3, s0, s5, s4, hl, h64, bad, q⟩ := h
  refine ⟨_, pss_cons (ps_if (pt_cmpR op_eq (pv 1) pe_int (nomark _)) (pss_one (ps_ret (pe_eit (pmethT thr_def (pcall d__law_kin hr (pa_cons (pv 0) pa_nil)) CA.c_Codes CA.mt_Codes_number_of d_Codes__Family_number_of hr (pa_cons (pv 2) pa_nil)) (pe_eit (pmethT thr_def (pcall d__law_kin hr (pa_cons (pv 0) pa_nil)) CA.c_Trees CA.mt_Trees_number_of d_Trees__Family_number_of hr (pa_cons (pv 2) pa_nil)) (pmethT thr_def (pcall d__law_kin hr (pa_cons (pv 0) pa_nil)) CA.c_Cars CA.mt_Cars_number_of d_Cars__Family_number_of hr (pa_cons (pv 2) pa_nil)))))) pss_nil)
    (pss_cons (ps_if (pt_cmpR op_eq (pv 1) pe_int (nomark _)) (pss_one (ps_ret (pe_eit (pmethT thr_def (pcall d__law_kin hr (pa_cons (pv 0) pa_nil)) CA.c_Codes CA.mt_Codes_next_of d_Codes__Family_next_of hr (pa_cons (pv 2) pa_nil)) (pe_eit (pmethT thr_def (pcall d__law_kin hr (pa_cons (pv 0) pa_nil)) CA.c_Trees CA.mt_Trees_next_of d_Trees__Family_next_of hr (pa_cons (pv 2) pa_nil)) (pmethT thr_def (pcall d__law_kin hr (pa_cons (pv 0) pa_nil)) CA.c_Cars CA.mt_Cars_next_of d_Cars__Family_next_of hr (pa_cons (pv 2) pa_nil)))))) pss_nil)
    (pss_cons (ps_if (pt_cmpR op_eq (pv 0) pe_int (nomark _)) (pss_one (ps_ret (pe_eit (pcallV thr_def (pe_ix ix_list (pe_lst (pa_cons (pe_glob (v := .ref _) rfl d_code_to_tree.m rfl) (pa_cons (pe_glob (v := .ref _) rfl d_code_to_cars.m rfl) pa_nil))) (pe_op op_mod (pv 1) pe_int) (fun _ _ => rfl)) d_code_to_tree hr (pa_cons (pv 2) pa_nil)) (pcallV thr_def (pe_ix ix_list (pe_lst (pa_cons (pe_glob (v := .ref _) rfl d_code_to_tree.m rfl) (pa_cons (pe_glob (v := .ref _) rfl d_code_to_cars.m rfl) pa_nil))) (pe_op op_mod (pv 1) pe_int) (fun _ _ => rfl)) d_code_to_cars hr (pa_cons (pv 2) pa_nil))))) pss_nil)
    (pss_cons (ps_if (pt_cmpR op_eq (pv 0) pe_int (nomark _)) (pss_one (ps_ret (pe_eit (pcallV thr_def (pe_ix ix_list (pe_lst (pa_cons (pe_glob (v := .ref _) rfl d_tree_to_code.m rfl) (pa_cons (pe_glob (v := .ref _) rfl d_tree_to_cars.m rfl) pa_nil))) (pe_op op_mod (pv 1) pe_int) (fun _ _ => rfl)) d_tree_to_code hr (pa_cons (pv 2) pa_nil)) (pcallV thr_def (pe_ix ix_list (pe_lst (pa_cons (pe_glob (v := .ref _) rfl d_tree_to_code.m rfl) (pa_cons (pe_glob (v := .ref _) rfl d_tree_to_cars.m rfl) pa_nil))) (pe_op op_mod (pv 1) pe_int) (fun _ _ => rfl)) d_tree_to_cars hr (pa_cons (pv 2) pa_nil))))) pss_nil)
    (pss_one (ps_ret (pe_eit (pcallV thr_def (pe_ix ix_list (pe_lst (pa_cons (pe_glob (v := .ref _) rfl d_cars_to_code.m rfl) (pa_cons (pe_glob (v := .ref _) rfl d_cars_to_tree.m rfl) (pa_cons (pe_glob (v := .ref _) rfl d_parked.m rfl) pa_nil)))) (pe_op op_sub (pv 1) pe_int) (fun _ _ => rfl)) d_cars_to_code hr (pa_cons (pv 2) pa_nil)) (pe_eit (pcallV thr_def (pe_ix ix_list (pe_lst (pa_cons (pe_glob (v := .ref _) rfl d_cars_to_code.m rfl) (pa_cons (pe_glob (v := .ref _) rfl d_cars_to_tree.m rfl) (pa_cons (pe_glob (v := .ref _) rfl d_parked.m rfl) pa_nil)))) (pe_op op_sub (pv 1) pe_int) (fun _ _ => rfl)) d_cars_to_tree hr (pa_cons (pv 2) pa_nil)) (pcallV thr_def (pe_ix ix_list (pe_lst (pa_cons (pe_glob (v := .ref _) rfl d_cars_to_code.m rfl) (pa_cons (pe_glob (v := .ref _) rfl d_cars_to_tree.m rfl) (pa_cons (pe_glob (v := .ref _) rfl d_parked.m rfl) pa_nil)))) (pe_op op_sub (pv 1) pe_int) (fun _ _ => rfl)) d_parked hr (pa_cons (pv 2) pa_nil))))))))), ?_⟩
  rcases (by omega : w = 0 ∨ w = 1 ∨ w = 2) with rfl | rfl | rfl
  · have bad := bad.1 rfl
    have s4 := s4 (by decide)
    refine ⟨_, rfl, rfl, _, rfl, ?_⟩
    by_cases e0 : so = 0
    · refine iteP (congrArg V.int e0) (.inl ⟨_, rfl, 0, rfl, by decide, by decide, fun x dx fs H1 s1 => ⟨fun ew hx fl => ?_, fun ew => absurd ew (by decide), fun ew => absurd ew (by decide)⟩⟩)
      exact ⟨x, dx, fs, rfl, hx, fl.no "number_of" (by decide) (by decide), _, rfl, x, dx, fs, l, ns, rfl, hx, fl, s1 _ _ hl, h64, bad, fun H2 s2 => q _ (s1.trans s2)⟩
    refine iteN (fun z => e0 (by injection z)) ⟨_, rfl, rfl, _, rfl, ?_⟩
    by_cases e1 : so = 1
    · refine iteP (congrArg V.int e1) (.inl ⟨_, rfl, 0, rfl, by decide, by decide, fun x dx fs H1 s1 => ⟨fun ew hx fl => ?_, fun ew => absurd ew (by decide), fun ew => absurd ew (by decide)⟩⟩)
      exact ⟨x, dx, fs, rfl, hx, fl.no "next_of" (by decide) (by decide), _, rfl, x, dx, fs, l, ns, rfl, hx, fl, s1 _ _ hl, h64, bad, fun H2 s2 => q _ (s1.trans s2)⟩
    refine iteN (fun z => e1 (by injection z)) ⟨_, rfl, rfl, _, rfl, ?_⟩

    refine iteP rfl ?_
    rcases (by omega : so = 2 ∨ so = 3) with rfl | rfl
    · refine .inl ⟨(by show 2 ≤ sizeLine; decide), fun p hp => ⟨_, rfl, _, _, rfl, rfl, pm (by decide), p, _, _, _, rfl, rfl, SqL.of upd_same, rfl, rfl, _, rfl, l, ns, rfl, (upd_ne (ne_of_none hl hp)).trans hl, h64, bad, fun H1 s1 => q _ ((Same.new (Same.refl H) hp _).trans s1)⟩⟩
    · refine .inr ⟨(by show 2 ≤ sizeLine; decide), fun p hp => ⟨_, rfl, _, _, rfl, rfl, pm (by decide), p, _, _, _, rfl, rfl, SqL.of upd_same, rfl, rfl, _, rfl, l, ns, rfl, (upd_ne (ne_of_none hl hp)).trans hl, h64, bad, fun H1 s1 => q _ ((Same.new (Same.refl H) hp _).trans s1)⟩⟩
  · have bad := bad.2.1 rfl
    have s4 := s4 (by decide)
    refine ⟨_, rfl, rfl, _, rfl, ?_⟩
    by_cases e0 : so = 0
    · refine iteP (congrArg V.int e0) (.inr (.inl ⟨_, rfl, 1, rfl, by decide, by decide, fun x dx fs H1 s1 => ⟨fun ew => absurd ew (by decide), fun ew hx fl => ?_, fun ew => absurd ew (by decide)⟩⟩))
      exact ⟨x, dx, fs, rfl, hx, fl.no "number_of" (by decide) (by decide), _, rfl, x, dx, fs, l, ns, rfl, hx, fl, s1 _ _ hl, h64, bad, fun H2 s2 => q _ (s1.trans s2)⟩
    refine iteN (fun z => e0 (by injection z)) ⟨_, rfl, rfl, _, rfl, ?_⟩
    by_cases e1 : so = 1
    · refine iteP (congrArg V.int e1) (.inr (.inl ⟨_, rfl, 1, rfl, by decide, by decide, fun x dx fs H1 s1 => ⟨fun ew => absurd ew (by decide), fun ew hx fl => ?_, fun ew => absurd ew (by decide)⟩⟩))
      exact ⟨x, dx, fs, rfl, hx, fl.no "next_of" (by decide) (by decide), _, rfl, x, dx, fs, l, ns, rfl, hx, fl, s1 _ _ hl, h64, bad, fun H2 s2 => q _ (s1.trans s2)⟩
    refine iteN (fun z => e1 (by injection z)) ⟨_, rfl, rfl, _, rfl, ?_⟩

    refine iteN (fun z => by injection z with z; cases z) ⟨_, rfl, rfl, _, rfl, iteP rfl ?_⟩
    rcases (by omega : so = 2 ∨ so = 3) with rfl | rfl
    · refine .inl ⟨(by show 2 ≤ sizeLine; decide), fun p hp => ⟨_, rfl, _, _, rfl, rfl, pm (by decide), p, _, _, _, rfl, rfl, SqL.of upd_same, rfl, rfl, _, rfl, l, ns, rfl, (upd_ne (ne_of_none hl hp)).trans hl, h64, bad, fun H1 s1 => q _ ((Same.new (Same.refl H) hp _).trans s1)⟩⟩
    · refine .inr ⟨(by show 2 ≤ sizeLine; decide), fun p hp => ⟨_, rfl, _, _, rfl, rfl, pm (by decide), p, _, _, _, rfl, rfl, SqL.of upd_same, rfl, rfl, _, rfl, l, ns, rfl, (upd_ne (ne_of_none hl hp)).trans hl, h64, bad, fun H1 s1 => q _ ((Same.new (Same.refl H) hp _).trans s1)⟩⟩
  · have bad := bad.2.2 rfl
    have s5 := s5 rfl
    refine ⟨_, rfl, rfl, _, rfl, ?_⟩
    by_cases e0 : so = 0
    · refine iteP (congrArg V.int e0) (.inr (.inr ⟨_, rfl, 2, rfl, by decide, by decide, fun x dx fs H1 s1 => ⟨fun ew => absurd ew (by decide), fun ew => absurd ew (by decide), fun ew hx fl => ?_⟩⟩))
      exact ⟨x, dx, fs, rfl, hx, fl.no "number_of" (by decide) (by decide), _, rfl, x, dx, fs, l, ns, rfl, hx, fl, s1 _ _ hl, h64, bad, fun H2 s2 => q _ (s1.trans s2)⟩
    refine iteN (fun z => e0 (by injection z)) ⟨_, rfl, rfl, _, rfl, ?_⟩
    by_cases e1 : so = 1
    · refine iteP (congrArg V.int e1) (.inr (.inr ⟨_, rfl, 2, rfl, by decide, by decide, fun x dx fs H1 s1 => ⟨fun ew => absurd ew (by decide), fun ew => absurd ew (by decide), fun ew hx fl => ?_⟩⟩))
      exact ⟨x, dx, fs, rfl, hx, fl.no "next_of" (by decide) (by decide), _, rfl, x, dx, fs, l, ns, rfl, hx, fl, s1 _ _ hl, h64, bad, fun H2 s2 => q _ (s1.trans s2)⟩
    refine iteN (fun z => e1 (by injection z)) ⟨_, rfl, rfl, _, rfl, ?_⟩

    refine iteN (fun z => by injection z with z; cases z) ⟨_, rfl, rfl, _, rfl, iteN (fun z => by injection z with z; cases z) ?_⟩
    rcases (by omega : so = 2 ∨ so = 3 ∨ so = 4) with rfl | rfl | rfl
    · refine .inl ⟨(by show 3 ≤ sizeLine; decide), fun p hp => ⟨_, rfl, _, _, rfl, rfl, p, _, _, _, rfl, rfl, SqL.of upd_same, rfl, rfl, _, rfl, l, ns, rfl, (upd_ne (ne_of_none hl hp)).trans hl, h64, bad, fun H1 s1 => q _ ((Same.new (Same.refl H) hp _).trans s1)⟩⟩
    · refine .inr (.inl ⟨(by show 3 ≤ sizeLine; decide), fun p hp => ⟨_, rfl, _, _, rfl, rfl, p, _, _, _, rfl, rfl, SqL.of upd_same, rfl, rfl, _, rfl, l, ns, rfl, (upd_ne (ne_of_none hl hp)).trans hl, h64, bad, fun H1 s1 => q _ ((Same.new (Same.refl H) hp _).trans s1)⟩⟩)
    · refine .inr (.inr ⟨(by show 3 ≤ sizeLine; decide), fun p hp => ⟨_, rfl, _, _, rfl, rfl, p, _, _, _, rfl, rfl, SqL.of upd_same, rfl, rfl, _, rfl, l, ns, rfl, (upd_ne (ne_of_none hl hp)).trans hl, h64, bad, fun H1 s1 => q _ ((Same.new (Same.refl H) hp _).trans s1)⟩⟩)
theorem ok__law_classes {er : Errs} (EO : ErrOk K mg er) {ca : ClA} (CA : ClOk K mg ca) {f : Addr} {fd : FuncData} (F : Fun K "_law_classes" "_law_classes" s__law_classes f fd) (m_isinstance : mg "isinstance" = none) (m_ValueError : mg "ValueError" = none) : FnOk P w K mg base CX0 1 f fd ["_law_error"] (sp__law_classes K ca er) := by
  refine F.ok sc__law_classes (fun vs H Q E h => ?_) (fun cdv A outer s H vs Q E hr h => ?_)
  · obtain ⟨e, c, t, rfl, he, ht, q⟩ := h
    rfl
  obtain ⟨e, c, t, rfl, he, ht, q⟩ := h
  refine ⟨_, pss_cons (ps_set (i := 1) sc__law_classes.nd rfl (Or.inl rfl) (pe_lst pa_nil))
    (pss_cons (ps_if (pt_val (pe_callB (call_isinstX) rfl m_isinstance bb_isinstance (pa_cons (pv 0) (pa_cons (pe_glob (v := .ref er.size) rfl EO.m_size rfl) pa_nil)))) (pss_one (ps_expr (pe_bm PySem.F.plainAttrs_list PySem.F.slot_list_append PySem.F.type_list_append mt_append (pv 1) (pa_cons pe_str pa_nil)))) pss_nil)
    (pss_cons (ps_if (pt_val (pe_callB (call_isinstX) rfl m_isinstance bb_isinstance (pa_cons (pv 0) (pa_cons (pe_glob (v := .ref er.number) rfl EO.m_number rfl) pa_nil)))) (pss_one (ps_expr (pe_bm PySem.F.plainAttrs_list PySem.F.slot_list_append PySem.F.type_list_append mt_append (pv 1) (pa_cons pe_str pa_nil)))) pss_nil)
    (pss_cons (ps_if (pt_val (pe_callB (call_isinstX) rfl m_isinstance bb_isinstance (pa_cons (pv 0) (pa_cons (pe_glob (v := .ref er.thing) rfl EO.m_thing rfl) pa_nil)))) (pss_one (ps_expr (pe_bm PySem.F.plainAttrs_list PySem.F.slot_list_append PySem.F.type_list_append mt_append (pv 1) (pa_cons pe_str pa_nil)))) pss_nil)
    (pss_cons (ps_if (PW.pt (pw_or (pt_val (pe_callB (call_isinstX) rfl m_isinstance bb_isinstance (pa_cons (pv 0) (pa_cons (pe_glob (v := .ref er.family) rfl EO.m_family rfl) pa_nil)))) (pw_or (pt_val (pe_callB (call_isinstX) rfl m_isinstance bb_isinstance (pa_cons (pv 0) (pa_cons (pe_glob (v := .ref er.way) rfl EO.m_way rfl) pa_nil)))) (pw_or1 (pt_val (pe_callB (call_isinstX) rfl m_isinstance bb_isinstance (pa_cons (pv 0) (pa_cons (pe_glob (v := .ref er.mark) rfl EO.m_mark rfl) pa_nil)))))))) (pss_one (ps_expr (pe_bm PySem.F.plainAttrs_list PySem.F.slot_list_append PySem.F.type_list_append mt_append (pv 1) (pa_cons pe_str pa_nil)))) pss_nil)
    (pss_cons (ps_if (PW.pt (pw_or (pt_val (pe_callB (call_isinstX) rfl m_isinstance bb_isinstance (pa_cons (pv 0) (pa_cons (pe_glob (v := .ref er.apart) rfl EO.m_apart rfl) pa_nil)))) (pw_or (pt_val (pe_callB (call_isinstX) rfl m_isinstance bb_isinstance (pa_cons (pv 0) (pa_cons (pe_glob (v := .ref er.broken) rfl EO.m_broken rfl) pa_nil)))) (pw_or1 (pt_val (pe_callB (call_isinstX) rfl m_isinstance bb_isinstance (pa_cons (pv 0) (pa_cons (pe_glob (v := .ref er.text) rfl EO.m_text rfl) pa_nil)))))))) (pss_one (ps_expr (pe_bm PySem.F.plainAttrs_list PySem.F.slot_list_append PySem.F.type_list_append mt_append (pv 1) (pa_cons pe_str pa_nil)))) pss_nil)
    (pss_cons (ps_if (pt_not (pt_val (pe_callB (call_isinstX) rfl m_isinstance bb_isinstance (pa_cons (pv 0) (pa_cons (pe_bltn (v := .ty "ValueError") rfl m_ValueError bb_ValueError rfl) pa_nil))))) (pss_one (ps_expr (pe_bm PySem.F.plainAttrs_list PySem.F.slot_list_append PySem.F.type_list_append mt_append (pv 1) (pa_cons pe_str pa_nil)))) pss_nil)
    (pss_one (ps_ret (pv 1))))))))), ?_⟩
  refine ⟨Nat.zero_le _, fun p hp => ?_⟩
  have s1 := Same.new (Same.refl H) hp (.lst [])
  have he1 : upd H p (.lst []) e = some (excO e (.ref c)) := s1 _ _ he
  have nep : e ≠ p := ne_of_none he hp
  have he2 : ∀ o, upd (upd H p (.lst [])) p o e = some (excO e (.ref c)) := fun o => (upd_ne nep).trans he1
  have s2 : ∀ o, Same H (upd (upd H p (.lst [])) p o) := fun o => s1.upd hp o
  have l0 : ([] : List V).length < sizeLine := sz' (n := 0) (by decide)
  rcases ht with ⟨rfl, rfl⟩ | ⟨rfl, rfl⟩ | ⟨rfl, rfl⟩
  · refine ⟨_, rfl, e, _, _, _, _, rfl, relRef, he1, EO.k_size, EO.size_size, _, rfl, iteT ⟨_, rfl, .inl ⟨rfl, _, SqL.of upd_same⟩, p, _, _, rfl, rfl, upd_same, l0, ?_⟩⟩
    refine ⟨_, rfl, e, _, _, _, _, rfl, relRef, he2 _, EO.k_size, EO.size_number, _, rfl, iteF ?_⟩
    refine ⟨_, rfl, e, _, _, _, _, rfl, relRef, he2 _, EO.k_size, EO.size_thing, _, rfl, iteF ?_⟩
    refine ⟨_, rfl, e, _, _, _, _, rfl, relRef, he2 _, EO.k_size, EO.size_family, _, rfl, iteF ⟨_, rfl, e, _, _, _, _, rfl, relRef, he2 _, EO.k_size, EO.size_way, _, rfl, iteF ⟨_, rfl, e, _, _, _, _, rfl, relRef, he2 _, EO.k_size, EO.size_mark, _, rfl, iteF ?_⟩⟩⟩
    refine ⟨_, rfl, e, _, _, _, _, rfl, relRef, he2 _, EO.k_size, EO.size_apart, _, rfl, iteF ⟨_, rfl, e, _, _, _, _, rfl, relRef, he2 _, EO.k_size, EO.size_broken, _, rfl, iteF ⟨_, rfl, e, _, _, _, _, rfl, relRef, he2 _, EO.k_size, EO.size_text, _, rfl, iteF ?_⟩⟩⟩
    refine ⟨_, rfl, e, _, _, _, _, rfl, relTy, he2 _, EO.k_size, EO.size_value, _, rfl, iteF ⟨_, rfl, q p _ (s2 _) hp upd_same⟩⟩
  · refine ⟨_, rfl, e, _, _, _, _, rfl, relRef, he1, EO.k_number, EO.number_size, _, rfl, iteF ?_⟩
    refine ⟨_, rfl, e, _, _, _, _, rfl, relRef, he1, EO.k_number, EO.number_number, _, rfl, iteT ⟨_, rfl, .inl ⟨rfl, _, SqL.of upd_same⟩, p, _, _, rfl, rfl, upd_same, l0, ?_⟩⟩
    refine ⟨_, rfl, e, _, _, _, _, rfl, relRef, he2 _, EO.k_number, EO.number_thing, _, rfl, iteF ?_⟩
    refine ⟨_, rfl, e, _, _, _, _, rfl, relRef, he2 _, EO.k_number, EO.number_family, _, rfl, iteF ⟨_, rfl, e, _, _, _, _, rfl, relRef, he2 _, EO.k_number, EO.number_way, _, rfl, iteF ⟨_, rfl, e, _, _, _, _, rfl, relRef, he2 _, EO.k_number, EO.number_mark, _, rfl, iteF ?_⟩⟩⟩
    refine ⟨_, rfl, e, _, _, _, _, rfl, relRef, he2 _, EO.k_number, EO.number_apart, _, rfl, iteF ⟨_, rfl, e, _, _, _, _, rfl, relRef, he2 _, EO.k_number, EO.number_broken, _, rfl, iteF ⟨_, rfl, e, _, _, _, _, rfl, relRef, he2 _, EO.k_number, EO.number_text, _, rfl, iteF ?_⟩⟩⟩
    refine ⟨_, rfl, e, _, _, _, _, rfl, relTy, he2 _, EO.k_number, EO.number_value, _, rfl, iteF ⟨_, rfl, q p _ (s2 _) hp upd_same⟩⟩
  · refine ⟨_, rfl, e, _, _, _, _, rfl, relRef, he1, EO.k_thing, EO.thing_size, _, rfl, iteF ?_⟩
    refine ⟨_, rfl, e, _, _, _, _, rfl, relRef, he1, EO.k_thing, EO.thing_number, _, rfl, iteF ?_⟩
    refine ⟨_, rfl, e, _, _, _, _, rfl, relRef, he1, EO.k_thing, EO.thing_thing, _, rfl, iteT ⟨_, rfl, .inl ⟨rfl, _, SqL.of upd_same⟩, p, _, _, rfl, rfl, upd_same, l0, ?_⟩⟩
    refine ⟨_, rfl, e, _, _, _, _, rfl, relRef, he2 _, EO.k_thing, EO.thing_family, _, rfl, iteF ⟨_, rfl, e, _, _, _, _, rfl, relRef, he2 _, EO.k_thing, EO.thing_way, _, rfl, iteF ⟨_, rfl, e, _, _, _, _, rfl, relRef, he2 _, EO.k_thing, EO.thing_mark, _, rfl, iteF ?_⟩⟩⟩
    refine ⟨_, rfl, e, _, _, _, _, rfl, relRef, he2 _, EO.k_thing, EO.thing_apart, _, rfl, iteF ⟨_, rfl, e, _, _, _, _, rfl, relRef, he2 _, EO.k_thing, EO.thing_broken, _, rfl, iteF ⟨_, rfl, e, _, _, _, _, rfl, relRef, he2 _, EO.k_thing, EO.thing_text, _, rfl, iteF ?_⟩⟩⟩
    refine ⟨_, rfl, e, _, _, _, _, rfl, relTy, he2 _, EO.k_thing, EO.thing_value, _, rfl, iteF ⟨_, rfl, q p _ (s2 _) hp upd_same⟩⟩
theorem ok__law_refused {er : Errs} (EO : ErrOk K mg er) {ca : ClA} (CA : ClOk K mg ca) {f : Addr} {fd : FuncData} (F : Fun K "_law_refused" "_law_refused" s__law_refused f fd) {f0 : Addr} {fd0 : FuncData} (d__law_asked : Def P w K mg base "_law_asked" ["_law_word", "_law_some", "_law_thing"] 8 (sp__law_asked K ca er) f0 fd0) {f1 : Addr} {fd1 : FuncData} (d__law_classes : Def P w K mg base "_law_classes" ["_law_error"] 1 (sp__law_classes K ca er) f1 fd1) : FnOk P w K mg base CX0 9 f fd ["_law_word", "_law_some", "_law_thing"] (sp__law_refused K ca er) := by
  refine F.ok sc__law_refused (fun vs H Q E h => ?_) (fun cdv A outer s H vs Q E hr h => ?_)
  · obtain ⟨w, so, l, ns, rfl, w0, w3, s0, s5, s4, hl, h64, bad, q⟩ := h
    rfl
  obtain ⟨w, so, l, ns, rfl, w0, w3, s0, s5, s4, hl, h64, bad, q⟩ := h
  refine ⟨_, pss_cons (ps_set (i := 3) sc__law_refused.nd rfl (Or.inl rfl) pe_non)
    (pss_cons (ps_tryAs (i := 4) rfl rfl rfl sc__law_refused.nd rfl rfl rfl EO.m_kin (px_call d__law_asked hr (fun _ _ => (pa_cons (pv 0) (pa_cons (pv 1) (pa_cons (pv 2) pa_nil))))) (fun _ => (pss_one (ps_set (i := 3) sc__law_refused.nd rfl (Or.inl rfl) (pv 4)))))
    (pss_one (ps_ret (pcall d__law_classes hr (pa_cons (pv 3) pa_nil))))), ?_⟩
  refine ⟨_, rfl, _, rfl, _, rfl, w, so, l, ns, rfl, w0, w3, s0, s5, s4, hl, h64, bad, fun H1 s1 => ⟨EO.c_thing, fun e he => ⟨_, rfl, ?_⟩⟩⟩
  refine ⟨_, rfl, e, er.thing, _, rfl, upd_same, .inr (.inr ⟨rfl, rfl⟩), fun p H' sm fp hp => ?_⟩
  have s2 := Same.new s1 he (excO e (.ref er.thing))
  exact q p H' (s2.trans sm) (s2.free fp) hp
theorem ok_ring_many {er : Errs} (EO : ErrOk K mg er) {ca : ClA} (CA : ClOk K mg ca) {f : Addr} {fd : FuncData} (F : Fun K "ring_many" "ring_many" s_ring_many f fd) : FnOk P w K mg base CX0 1 f fd ["size"] (sp_ring_many K ca) := by
  refine F.ok sc_ring_many (fun vs H Q E h => ?_) (fun cdv A outer s H vs Q E hr h => ?_)
  · obtain ⟨n, rfl, h0, h1, q⟩ := h
    rfl
  obtain ⟨n, rfl, h0, h1, q⟩ := h
  refine ⟨_, pss_cons (ps_set (i := 1) sc_ring_many.nd rfl (Or.inl rfl) pe_int)
    (pss_cons (ps_for PassesOwn.never rfl (pi_list (pe_op op_rep (pe_lst (pa_cons (pe_op op_add (pv 0) pe_int) pa_nil)) (pe_op op_sub (pv 0) pe_int))) (pg_name (i := 2) sc_ring_many.nd rfl (Or.inl rfl)) (pss_one (ps_set (i := 1) sc_ring_many.nd rfl (Or.inl rfl) (pe_op op_mul (pv 1) (pv 2)))))
    (pss_one (ps_ret (pv 1)))), ?_⟩
  refine ⟨_, rfl, _, _, rfl, rfl, (by show 1 ≤ sizeLine; decide), fun p0 hp0 => ⟨_, rfl, _, _, rfl, rfl, p0, _, _, rfl, rfl, upd_same, by omega, by omega, ?_, fun p1 hp1 => ⟨p1, rfl, ⟨_, SqL.of upd_same⟩, ?_⟩⟩⟩
  · show 1 * (n - 1).toNat ≤ sizeLine
    exact sz (by omega)
  rw [rep_one]
  have s0 : Same H (upd H p0 (.lst [.int (n + 1)])) := Same.new (Same.refl H) hp0 _
  have s1 := Same.new s0 hp1 (.lst (List.replicate (n - 1).toNat (V.int (n + 1))))
  refine for_list (xs := List.replicate (n - 1).toNat (V.int (n + 1))) (fun i σ H' => ∃ o, σ = [some (.int n), some (.int (pw (n + 1) i)), o] ∧ Same H H' ∧ H' p1 = some (.lst (List.replicate (n - 1).toNat (V.int (n + 1)))))
    ⟨_, rfl, s1, upd_same⟩ (fun i σ H' _ h => SqL.of h.choose_spec.2.2) ?_ ?_
  · rintro i x σ H' hx ⟨o, rfl, sm, hp⟩
    obtain ⟨_, ex⟩ : i < (n - 1).toNat ∧ V.int (n + 1) = x := by
      rw [List.getElem?_replicate] at hx
      split at hx
      · rename_i hi; cases hx; exact ⟨hi, rfl⟩
      · cases hx
    subst ex
    exact ⟨_, rfl, _, rfl, _, _, rfl, rfl, .inr ⟨by omega, by omega⟩, _, rfl, sm, hp⟩
  · rintro σ H' ⟨o, rfl, sm, hp⟩
    rw [List.length_replicate]
    exact ⟨_, rfl, q H' sm⟩
theorem ok_Cars__RingFamily_unchecked_many {er : Errs} (EO : ErrOk K mg er) {ca : ClA} (CA : ClOk K mg ca) {fd : FuncData} (F : Fun K "unchecked_many" "RingFamily.unchecked_many" s_Cars__RingFamily_unchecked_many ca.f_Cars__RingFamily_unchecked_many fd) {f0 : Addr} {fd0 : FuncData} (d_ring_many : Def P w K mg base "ring_many" ["size"] 1 (sp_ring_many K ca) f0 fd0) : FnOk P w K mg base CX0 2 ca.f_Cars__RingFamily_unchecked_many fd ["self", "size"] (sp_Cars__RingFamily_unchecked_many K ca) := by
  refine F.ok sc_Cars__RingFamily_unchecked_many (fun vs H Q E h => ?_) (fun cdv A outer s H vs Q E hr h => ?_)
  · obtain ⟨x, n, rfl, n1, n40, q⟩ := h
    rfl
  obtain ⟨x, n, rfl, n1, n40, q⟩ := h
  refine ⟨_, pss_one (ps_ret (pcall d_ring_many hr (pa_cons (pv 1) pa_nil))), ?_⟩
  exact ⟨_, rfl, n, rfl, n1, by omega, q⟩
theorem ok_Cars__Family_many {er : Errs} (EO : ErrOk K mg er) {ca : ClA} (CA : ClOk K mg ca) {fd : FuncData} (F : Fun K "many" "Family.many" s_Cars__Family_many ca.f_Cars__Family_many fd) {fd0 : FuncData} (d_Cars__RingFamily_unchecked_many : MDef P w K mg base ["self", "size"] 2 (sp_Cars__RingFamily_unchecked_many K ca) ca.f_Cars__RingFamily_unchecked_many fd0) {u_GREATEST_SIZE : Value} (g_GREATEST_SIZE : mg "GREATEST_SIZE" = some u_GREATEST_SIZE ∧ RelV (.int 40) u_GREATEST_SIZE) : FnOk P w K mg base (CX1 P w) 3 ca.f_Cars__Family_many fd ["self", "size"] (sp_Cars__Family_many K ca er) := by
  refine F.okE sc_Cars__Family_many (fun vs H Q E h => ?_) (fun cdv A outer s H vs Q E hr h => ?_)
  · obtain ⟨x, dx, fs, wd, n, rfl, hx, fl, q⟩ := h
    rfl
  obtain ⟨x, dx, fs, wd, n, rfl, hx, fl, q⟩ := h
  refine ⟨_, pss_cons (ps_if (PW.pt (pw_or (pt_cmpR op_lt (pv 1) (pe_fld (pv 0) rfl) (nomark _)) (pw_or1 (pt_cmpR op_gt (pv 1) (pe_glob (v := .int 40) rfl g_GREATEST_SIZE.1 g_GREATEST_SIZE.2) (nomark _))))) (pss_one (ps_raise thr_def EO.x_size rfl EO.m_size (pa_cons pe_str pa_nil))) pss_nil)
    (pss_one (ps_ret (pmeth (pv 0) CA.c_Cars CA.mt_Cars_unchecked_many d_Cars__RingFamily_unchecked_many hr (pa_cons (pv 1) pa_nil)))), ?_⟩
  refine ⟨_, rfl, _, rfl, x, _, dx, fs, _, rfl, hx, CA.c_Cars, CA.na_Cars_least, fl.least, _, _, rfl, rfl, _, rfl, ?_⟩
  rcases q with ⟨h, q⟩ | ⟨n1, n40, q⟩
  · by_cases h1 : n < 1
    · exact iteP h1 (iteT ⟨sz (n := 1) (by decide), q⟩)
    · exact iteN h1 ⟨_, rfl, _, _, rfl, rfl, _, rfl, iteP (by omega) ⟨sz (n := 1) (by decide), q⟩⟩
  · refine iteN (by omega) ⟨_, rfl, _, _, rfl, rfl, _, rfl, iteN (by omega) ?_⟩
    exact ⟨_, rfl, x, dx, fs, rfl, hx, fl.no "unchecked_many" (by decide) (by decide), _, rfl, x, n, rfl, n1, n40, q⟩
theorem ok_Trees__RingFamily_unchecked_many {er : Errs} (EO : ErrOk K mg er) {ca : ClA} (CA : ClOk K mg ca) {fd : FuncData} (F : Fun K "unchecked_many" "RingFamily.unchecked_many" s_Trees__RingFamily_unchecked_many ca.f_Trees__RingFamily_unchecked_many fd) {f0 : Addr} {fd0 : FuncData} (d_ring_many : Def P w K mg base "ring_many" ["size"] 1 (sp_ring_many K ca) f0 fd0) : FnOk P w K mg base CX0 2 ca.f_Trees__RingFamily_unchecked_many fd ["self", "size"] (sp_Trees__RingFamily_unchecked_many K ca) := by
  refine F.ok sc_Trees__RingFamily_unchecked_many (fun vs H Q E h => ?_) (fun cdv A outer s H vs Q E hr h => ?_)
  · obtain ⟨x, n, rfl, n1, n40, q⟩ := h
    rfl
  obtain ⟨x, n, rfl, n1, n40, q⟩ := h
  refine ⟨_, pss_one (ps_ret (pcall d_ring_many hr (pa_cons (pv 1) pa_nil))), ?_⟩
  exact ⟨_, rfl, n, rfl, n1, by omega, q⟩
theorem ok_Trees__Family_many {er : Errs} (EO : ErrOk K mg er) {ca : ClA} (CA : ClOk K mg ca) {fd : FuncData} (F : Fun K "many" "Family.many" s_Trees__Family_many ca.f_Trees__Family_many fd) {fd0 : FuncData} (d_Trees__RingFamily_unchecked_many : MDef P w K mg base ["self", "size"] 2 (sp_Trees__RingFamily_unchecked_many K ca) ca.f_Trees__RingFamily_unchecked_many fd0) {u_GREATEST_SIZE : Value} (g_GREATEST_SIZE : mg "GREATEST_SIZE" = some u_GREATEST_SIZE ∧ RelV (.int 40) u_GREATEST_SIZE) : FnOk P w K mg base (CX1 P w) 3 ca.f_Trees__Family_many fd ["self", "size"] (sp_Trees__Family_many K ca er) := by
  refine F.okE sc_Trees__Family_many (fun vs H Q E h => ?_) (fun cdv A outer s H vs Q E hr h => ?_)
  · obtain ⟨x, dx, fs, wd, n, rfl, hx, fl, q⟩ := h
    rfl
  obtain ⟨x, dx, fs, wd, n, rfl, hx, fl, q⟩ := h
  refine ⟨_, pss_cons (ps_if (PW.pt (pw_or (pt_cmpR op_lt (pv 1) (pe_fld (pv 0) rfl) (nomark _)) (pw_or1 (pt_cmpR op_gt (pv 1) (pe_glob (v := .int 40) rfl g_GREATEST_SIZE.1 g_GREATEST_SIZE.2) (nomark _))))) (pss_one (ps_raise thr_def EO.x_size rfl EO.m_size (pa_cons pe_str pa_nil))) pss_nil)
    (pss_one (ps_ret (pmeth (pv 0) CA.c_Trees CA.mt_Trees_unchecked_many d_Trees__RingFamily_unchecked_many hr (pa_cons (pv 1) pa_nil)))), ?_⟩
  refine ⟨_, rfl, _, rfl, x, _, dx, fs, _, rfl, hx, CA.c_Trees, CA.na_Trees_least, fl.least, _, _, rfl, rfl, _, rfl, ?_⟩
  rcases q with ⟨h, q⟩ | ⟨n1, n40, q⟩
  · by_cases h1 : n < 1
    · exact iteP h1 (iteT ⟨sz (n := 1) (by decide), q⟩)
    · exact iteN h1 ⟨_, rfl, _, _, rfl, rfl, _, rfl, iteP (by omega) ⟨sz (n := 1) (by decide), q⟩⟩
  · refine iteN (by omega) ⟨_, rfl, _, _, rfl, rfl, _, rfl, iteN (by omega) ?_⟩
    exact ⟨_, rfl, x, dx, fs, rfl, hx, fl.no "unchecked_many" (by decide) (by decide), _, rfl, x, n, rfl, n1, n40, q⟩
theorem ok_Codes__RingFamily_unchecked_many {er : Errs} (EO : ErrOk K mg er) {ca : ClA} (CA : ClOk K mg ca) {fd : FuncData} (F : Fun K "unchecked_many" "RingFamily.unchecked_many" s_Codes__RingFamily_unchecked_many ca.f_Codes__RingFamily_unchecked_many fd) {f0 : Addr} {fd0 : FuncData} (d_ring_many : Def P w K mg base "ring_many" ["size"] 1 (sp_ring_many K ca) f0 fd0) : FnOk P w K mg base CX0 2 ca.f_Codes__RingFamily_unchecked_many fd ["self", "size"] (sp_Codes__RingFamily_unchecked_many K ca) := by
  refine F.ok sc_Codes__RingFamily_unchecked_many (fun vs H Q E h => ?_) (fun cdv A outer s H vs Q E hr h => ?_)
  · obtain ⟨x, n, rfl, n1, n40, q⟩ := h
    rfl
  obtain ⟨x, n, rfl, n1, n40, q⟩ := h
  refine ⟨_, pss_one (ps_ret (pcall d_ring_many hr (pa_cons (pv 1) pa_nil))), ?_⟩
  exact ⟨_, rfl, n, rfl, n1, by omega, q⟩
theorem ok_Codes__Family_many {er : Errs} (EO : ErrOk K mg er) {ca : ClA} (CA : ClOk K mg ca) {fd : FuncData} (F : Fun K "many" "Family.many" s_Codes__Family_many ca.f_Codes__Family_many fd) {fd0 : FuncData} (d_Codes__RingFamily_unchecked_many : MDef P w K mg base ["self", "size"] 2 (sp_Codes__RingFamily_unchecked_many K ca) ca.f_Codes__RingFamily_unchecked_many fd0) {u_GREATEST_SIZE : Value} (g_GREATEST_SIZE : mg "GREATEST_SIZE" = some u_GREATEST_SIZE ∧ RelV (.int 40) u_GREATEST_SIZE) : FnOk P w K mg base (CX1 P w) 3 ca.f_Codes__Family_many fd ["self", "size"] (sp_Codes__Family_many K ca er) := by
  refine F.okE sc_Codes__Family_many (fun vs H Q E h => ?_) (fun cdv A outer s H vs Q E hr h => ?_)
  · obtain ⟨x, dx, fs, wd, n, rfl, hx, fl, q⟩ := h
    rfl
  obtain ⟨x, dx, fs, wd, n, rfl, hx, fl, q⟩ := h
  refine ⟨_, pss_cons (ps_if (PW.pt (pw_or (pt_cmpR op_lt (pv 1) (pe_fld (pv 0) rfl) (nomark _)) (pw_or1 (pt_cmpR op_gt (pv 1) (pe_glob (v := .int 40) rfl g_GREATEST_SIZE.1 g_GREATEST_SIZE.2) (nomark _))))) (pss_one (ps_raise thr_def EO.x_size rfl EO.m_size (pa_cons pe_str pa_nil))) pss_nil)
    (pss_one (ps_ret (pmeth (pv 0) CA.c_Codes CA.mt_Codes_unchecked_many d_Codes__RingFamily_unchecked_many hr (pa_cons (pv 1) pa_nil)))), ?_⟩
  refine ⟨_, rfl, _, rfl, x, _, dx, fs, _, rfl, hx, CA.c_Codes, CA.na_Codes_least, fl.least, _, _, rfl, rfl, _, rfl, ?_⟩
  rcases q with ⟨h, q⟩ | ⟨n1, n40, q⟩
  · by_cases h1 : n < 1
    · exact iteP h1 (iteT ⟨sz (n := 1) (by decide), q⟩)
    · exact iteN h1 ⟨_, rfl, _, _, rfl, rfl, _, rfl, iteP (by omega) ⟨sz (n := 1) (by decide), q⟩⟩
  · refine iteN (by omega) ⟨_, rfl, _, _, rfl, rfl, _, rfl, iteN (by omega) ?_⟩
    exact ⟨_, rfl, x, dx, fs, rfl, hx, fl.no "unchecked_many" (by decide) (by decide), _, rfl, x, n, rfl, n1, n40, q⟩
theorem ok__law_size_refused {er : Errs} (EO : ErrOk K mg er) {ca : ClA} (CA : ClOk K mg ca) {f : Addr} {fd : FuncData} (F : Fun K "_law_size_refused" "_law_size_refused" s__law_size_refused f fd) {fd0 : FuncData} (d_Cars__Family_many : MDef P w K mg base ["self", "size"] 3 (sp_Cars__Family_many K ca er) ca.f_Cars__Family_many fd0) {fd1 : FuncData} (d_Trees__Family_many : MDef P w K mg base ["self", "size"] 3 (sp_Trees__Family_many K ca er) ca.f_Trees__Family_many fd1) {fd2 : FuncData} (d_Codes__Family_many : MDef P w K mg base ["self", "size"] 3 (sp_Codes__Family_many K ca er) ca.f_Codes__Family_many fd2) {f3 : Addr} {fd3 : FuncData} (d__law_classes : Def P w K mg base "_law_classes" ["_law_error"] 1 (sp__law_classes K ca er) f3 fd3) : FnOk P w K mg base CX0 4 f fd ["_law_kin_here", "_law_size"] (sp__law_size_refused K ca er) := by
  refine F.ok sc__law_size_refused (fun vs H Q E h => ?_) (fun cdv A outer s H vs Q E hr h => ?_)
  · obtain ⟨x, dx, fs, wd, w, n, rfl, hw, o0, o1, o2, fl, hn, q⟩ := h
    rfl
  obtain ⟨x, dx, fs, wd, w, n, rfl, hw, o0, o1, o2, fl, hn, q⟩ := h
  refine ⟨_, pss_cons (ps_set (i := 2) sc__law_size_refused.nd rfl (Or.inl rfl) pe_non)
    (pss_cons (ps_tryAs (i := 3) rfl rfl rfl sc__law_size_refused.nd rfl rfl rfl EO.m_kin (px_eit (px_meth (fun _ _ => (pv 0)) CA.c_Codes CA.mt_Codes_many d_Codes__Family_many hr (fun _ _ => (pa_cons (pv 1) pa_nil))) (px_eit (px_meth (fun _ _ => (pv 0)) CA.c_Trees CA.mt_Trees_many d_Trees__Family_many hr (fun _ _ => (pa_cons (pv 1) pa_nil))) (px_meth (fun _ _ => (pv 0)) CA.c_Cars CA.mt_Cars_many d_Cars__Family_many hr (fun _ _ => (pa_cons (pv 1) pa_nil))))) (fun _ => (pss_one (ps_set (i := 2) sc__law_size_refused.nd rfl (Or.inl rfl) (pv 3)))))
    (pss_one (ps_ret (pcall d__law_classes hr (pa_cons (pv 2) pa_nil))))), ?_⟩
  have ob := And.intro o0 (And.intro o1 o2)
  rcases (by omega : w = 0 ∨ w = 1 ∨ w = 2) with rfl | rfl | rfl
  · have hx := ob.1 rfl
    refine (.inl ⟨_, rfl, x, dx, fs, rfl, hx, fl.no "many" (by decide) (by decide), _, rfl, x, dx, fs, wd, n, rfl, hx, fl, .inl ⟨hn, EO.c_size, fun e he => ⟨_, rfl, ?_⟩⟩⟩)
    refine ⟨_, rfl, e, er.size, _, rfl, upd_same, .inl ⟨rfl, rfl⟩, fun p H' sm fp hp => ?_⟩
    have s2 := Same.new (Same.refl H) he (excO e (.ref er.size))
    exact q p H' (s2.trans sm) (s2.free fp) hp
  · have hx := ob.2.1 rfl
    refine (.inr (.inl ⟨_, rfl, x, dx, fs, rfl, hx, fl.no "many" (by decide) (by decide), _, rfl, x, dx, fs, wd, n, rfl, hx, fl, .inl ⟨hn, EO.c_size, fun e he => ⟨_, rfl, ?_⟩⟩⟩))
    refine ⟨_, rfl, e, er.size, _, rfl, upd_same, .inl ⟨rfl, rfl⟩, fun p H' sm fp hp => ?_⟩
    have s2 := Same.new (Same.refl H) he (excO e (.ref er.size))
    exact q p H' (s2.trans sm) (s2.free fp) hp
  · have hx := ob.2.2 rfl
    refine (.inr (.inr ⟨_, rfl, x, dx, fs, rfl, hx, fl.no "many" (by decide) (by decide), _, rfl, x, dx, fs, wd, n, rfl, hx, fl, .inl ⟨hn, EO.c_size, fun e he => ⟨_, rfl, ?_⟩⟩⟩))
    refine ⟨_, rfl, e, er.size, _, rfl, upd_same, .inl ⟨rfl, rfl⟩, fun p H' sm fp hp => ?_⟩
    have s2 := Same.new (Same.refl H) he (excO e (.ref er.size))
    exact q p H' (s2.trans sm) (s2.free fp) hp
theorem ok_Cars__of_code {er : Errs} (EO : ErrOk K mg er) {ca : ClA} (CA : ClOk K mg ca) {fd : FuncData} (F : Fun K "of_code" "Cars.of_code" s_Cars__of_code ca.f_Cars__of_code fd) {fd0 : FuncData} (d_Cars__is_one : MDef P w K mg base ["self", "thing"] 1 (sp_Cars__is_one K ca) ca.f_Cars__is_one fd0) (m_len : mg "len" = none) : FnOk P w K mg base CX0 2 ca.f_Cars__of_code fd ["self", "code"] (sp_Cars__of_code K ca) := by
  refine F.ok sc_Cars__of_code (fun vs H Q E h => ?_) (fun cdv A outer s H vs Q E hr h => ?_)
  · obtain ⟨x, dx, fs, l, cs, rfl, hx, fo, hl, hz, q⟩ := h
    rfl
  obtain ⟨x, dx, fs, l, cs, rfl, hx, fo, hl, hz, q⟩ := h
  refine ⟨_, pss_cons (ps_set (i := 2) sc_Cars__of_code.nd rfl (Or.inr rfl) (pe_op op_add (pe_callB call_len_seq rfl m_len bb_len (pa_cons (pv 1) pa_nil)) pe_int))
    (pss_cons (ps_set (i := 3) sc_Cars__of_code.nd rfl (Or.inl rfl) (pe_lst (pa_cons pe_int pa_nil)))
    (pss_cons (ps_for PassesOwn.never rfl (pi_list (pv 1)) (pg_name (i := 4) sc_Cars__of_code.nd rfl (Or.inl rfl)) (pss_one (ps_expr (pe_bm PySem.F.plainAttrs_list PySem.F.slot_list_append PySem.F.type_list_append mt_append (pv 3) (pa_cons (pe_op op_mod (pe_op op_add (pe_ix ix_list (pv 3) (pe_un un_neg pe_int) (fun _ _ => rfl)) (pv 4)) (pv 2)) pa_nil)))))
    (pss_cons (ps_while PassesOwn.never (pt_not (pt_val (pmeth (pv 0) CA.c_Cars CA.mt_Cars_is_one d_Cars__is_one hr (pa_cons (pv 3) pa_nil)))) (pss_one (ps_setComp (i := 3) sc_Cars__of_code.nd rfl (Or.inl rfl) rfl rfl (pi_list (pv 3)) rfl rfl rfl rfl (N := ["wish", "ring"]) (.own (.cap (j := 2) rfl rfl rfl .nil)) (fun _ _ _ _ _ _ => (pg_name (i := 0) (by show List.Nodup (["wish", "ring"] : List Str); decide +kernel) rfl (Or.inl rfl))) (fun _ _ _ _ _ _ => pts_nil) (fun _ _ _ _ _ _ => (pe_op op_mod (pe_op op_add (pv 0) pe_int) (pv 1))))))
    (pss_one (ps_ret (pv 3)))))), ?_⟩
  have lm : (cs.map V.int).length = cs.length := List.length_map _
  refine ⟨_, rfl, l, _, rfl, .inl (SqL.of hl), _, _, rfl, rfl, ?_⟩
  try dsimp only
  rw [lm]
  refine ⟨(by show 1 ≤ sizeLine; decide), fun pw hpw => ?_⟩
  have s1 := Same.new (Same.refl H) hpw (.lst [.int 0])
  have hw1 : upd H pw (.lst [.int 0]) pw = some (.lst ((walkR ((cs.length : Int) + 2) 0 (cs.take 0)).map V.int)) := upd_same
  generalize upd H pw (.lst [.int 0]) = H1 at s1 hw1 ⊢
  refine ⟨_, rfl, l, rfl, ⟨_, SqL.of (s1 _ _ hl)⟩, for_list (xs := cs.map V.int) (fun i σ H' => ∃ (o1 : Option V), σ = [some (.ref x), some (.ref l), some (.int ((cs.length : Int) + 2)), some (.ref pw), o1] ∧ Same H H' ∧ H' pw = some (.lst ((walkR ((cs.length : Int) + 2) 0 (cs.take i)).map V.int))) ⟨_, rfl, s1, hw1⟩ (fun i σ H' _ h => SqL.of (h.choose_spec.2.1 _ _ hl)) ?_ ?_⟩
  · rintro i u σ H' hu ⟨o1, rfl, sm, hw⟩
    obtain ⟨c, rfl⟩ := get_int hu
    have hc : cs[i]? = some c := by
      rw [List.getElem?_map] at hu
      cases h : cs[i]? with
      | none => rw [h] at hu; cases hu
      | some d => rw [h] at hu; injection hu with hu; injection hu with hu; rw [hu]
    have hi : i < cs.length := (List.getElem?_eq_some_iff.mp hc).1
    have lw := walkR_len ((cs.length : Int) + 2) (cs.take i) 0
    rw [List.length_take] at lw
    have hat : atI ((walkR ((cs.length : Int) + 2) 0 (cs.take i)).map V.int) (-1) = some (.int ((walkR ((cs.length : Int) + 2) 0 (cs.take i)).getLastD 0)) := by
      have hne : walkR ((cs.length : Int) + 2) 0 (cs.take i) ≠ [] := fun z => by rw [z] at lw; simp at lw
      obtain ⟨ys, y, e⟩ : ∃ ys y, walkR ((cs.length : Int) + 2) 0 (cs.take i) = ys ++ [y] := ⟨_, _, (List.dropLast_concat_getLast hne).symm⟩
      rw [e, List.map_append]
      show atI (ys.map V.int ++ [V.int y]) (-1) = _
      rw [atI_last]
      simp
    refine ⟨_, rfl, .inl ⟨rfl, _, SqL.of hw⟩, _, rfl, _, rfl, pw, _, _, _, rfl, rfl, SqL.of hw, hat, _, rfl, _, _, rfl, rfl, _, rfl, _, _, rfl, rfl, by omega, pw, _, _, rfl, rfl, hw, by rw [List.length_map]; exact sz' (by omega), ?_⟩
    refine ⟨_, rfl, sm.upd hpw _, ?_⟩
    rw [upd_same, List.take_add_one, hc]
    show some (HO.lst _) = some (HO.lst ((walkR _ 0 (cs.take i ++ [c])).map V.int))
    rw [walkR_snoc, List.map_append]
    rfl
  · rintro σ H2 ⟨o1, rfl, sm, hw⟩
    rw [lm, List.take_length] at hw
    have lw := walkR_len ((cs.length : Int) + 2) cs 0
    obtain ⟨S, hS, carS⟩ := car_exists (walkR ((cs.length : Int) + 2) 0 cs) fun w hw' => by
      have := walkR_bound (N := (cs.length : Int) + 2) (by omega) cs 0 (by decide) (by omega) w hw'
      omega
    rw [lw, show ((cs.length + 1 : Nat) : Int) + 1 = (cs.length : Int) + 2 by omega, walkR_rot, Int.zero_add] at carS
    rw [lw] at hS
    refine ⟨fun m σ H' => ∃ (o1 : Option V) (s : Nat) (pw : Addr), σ = [some (.ref x), some (.ref l), some (.int ((cs.length : Int) + 2)), some (.ref pw), o1] ∧ Same H H' ∧ H pw = none ∧ H' pw = some (.lst ((walkR ((cs.length : Int) + 2) ((s : Int) % ((cs.length : Int) + 2)) cs).map V.int)) ∧ s ≤ S ∧ m = S - s, ⟨_, _, 0, pw, rfl, sm, hpw, hw, Nat.zero_le _, rfl⟩, ?_⟩
    rintro m σ H' ⟨o1, s, pw, rfl, sm, fpw, hw, hs, hm⟩
    have v0 := Int.emod_nonneg (s : Int) (show (cs.length : Int) + 2 ≠ 0 by omega)
    have v1 := Int.emod_lt_of_pos (s : Int) (show (0 : Int) < (cs.length : Int) + 2 by omega)
    have lw := walkR_len ((cs.length : Int) + 2) cs ((s : Int) % ((cs.length : Int) + 2))
    refine ⟨_, rfl, x, dx, fs, rfl, sm _ _ hx, fo, _, rfl, x, pw, _, rfl, SqL.of hw, by omega, fun H3 s3 => ⟨_, rfl, ?_⟩⟩
    have sm3 := sm.trans s3
    have hw3 := s3 _ _ hw
    cases hb : isCar (walkR ((cs.length : Int) + 2) ((s : Int) % ((cs.length : Int) + 2)) cs) with
    | true =>
      have car := ((isCar_iff _).mp hb).2
      exact iteF ⟨_, rfl, q pw _ H3 sm3 fpw hw3 v0 v1 car⟩
    | false =>
      have hne : s ≠ S := fun z => by
        subst z
        have : isCar (walkR ((cs.length : Int) + 2) ((s : Int) % ((cs.length : Int) + 2)) cs) = true := isCar_true carS fun z => by rw [z] at lw; simp at lw
        rw [hb] at this
        cases this
      refine iteT ⟨fun σ' H' => ∃ (o1 : Option V) (pw : Addr), σ' = [some (.ref x), some (.ref l), some (.int ((cs.length : Int) + 2)), some (.ref pw), o1] ∧ Same H H' ∧ H pw = none ∧ H' pw = some (.lst ((walkR ((cs.length : Int) + 2) (((s + 1 : Nat) : Int) % ((cs.length : Int) + 2)) cs).map V.int)), ?_, ?_⟩
      · rintro σ' H' ⟨o1, pw, rfl, a1, a2, a3⟩
        exact ⟨S - (s + 1), by omega, o1, s + 1, pw, rfl, a1, a2, a3, by omega, rfl⟩
      · refine ⟨_, rfl, pw, rfl, ⟨_, SqL.of hw3⟩, fun D hD => comp_list (fun v => match v with | .int c => .int ((c + 1) % ((cs.length : Int) + 2)) | v => v) (by rw [List.length_map]; exact sz (by omega)) (SqL.of hw3) hD (fun i u H' R R0 hu hb hR => ?_) ?_⟩
        · obtain ⟨c, rfl⟩ := get_int hu
          exact ⟨Ext.set rfl, ttN (iteT ⟨_, rfl, _, _, rfl, rfl, _, rfl, _, _, rfl, rfl, by omega, hR⟩)⟩
        · have em : ((walkR ((cs.length : Int) + 2) ((s : Int) % ((cs.length : Int) + 2)) cs).map V.int).map (fun v => match v with | .int c => V.int ((c + 1) % ((cs.length : Int) + 2)) | v => v) = (walkR ((cs.length : Int) + 2) (((s + 1 : Nat) : Int) % ((cs.length : Int) + 2)) cs).map V.int := by
            have e1 := walkR_rot (N := (cs.length : Int) + 2) 1 cs ((s : Int) % ((cs.length : Int) + 2))
            rw [Int.emod_add_emod, show (s : Int) + 1 = ((s + 1 : Nat) : Int) by omega] at e1
            rw [← e1]
            unfold rot
            rw [List.map_map, List.map_map]
            rfl
          rw [em]
          exact ⟨_, D, rfl, Same.new sm3 hD _, sm3.free hD, upd_same⟩
theorem ok_number_figures {er : Errs} (EO : ErrOk K mg er) {ca : ClA} (CA : ClOk K mg ca) {f : Addr} {fd : FuncData} (F : Fun K "number_figures" "number_figures" s_number_figures f fd) (m_range : mg "range" = none) : FnOk P w K mg base CX0 1 f fd ["number", "base", "length"] (sp_number_figures K ca) := by
  refine F.ok sc_number_figures (fun vs H Q E h => ?_) (fun cdv A outer s H vs Q E hr h => ?_)
  · obtain ⟨m, b, z, rfl, b0, b1, z0, z1, q⟩ := h
    rfl
  obtain ⟨m, b, z, rfl, b0, b1, z0, z1, q⟩ := h
  refine ⟨_, pss_cons (ps_set (i := 3) sc_number_figures.nd rfl (Or.inl rfl) (pe_op op_rep (pe_lst (pa_cons pe_int pa_nil)) (pv 2)))
    (pss_cons (ps_set (i := 4) sc_number_figures.nd rfl (Or.inl rfl) (pv 0))
    (pss_cons (ps_for PassesOwn.never rfl (pi_down rfl m_range (pa_cons (pe_op op_sub (pv 2) pe_int) (pa_cons (pe_un un_neg pe_int) (pa_cons (pe_un un_neg pe_int) pa_nil)))) (pg_name (i := 5) sc_number_figures.nd rfl (Or.inl rfl)) (pss_cons (ps_asg (pe_op op_mod (pv 4) (pv 1)) (pg_sub (pv 3) (pv 5) set_list))
    (pss_one (ps_set (i := 4) sc_number_figures.nd rfl (Or.inl rfl) (pe_op op_fdivL (pv 4) (pv 1))))))
    (pss_one (ps_ret (pv 3))))), ?_⟩
  refine ⟨(by show 1 ≤ sizeLine; decide), fun p0 hp0 => ⟨_, rfl, p0, _, _, rfl, rfl, upd_same, by omega, by omega, ?_, fun p1 hp1 => ?_⟩⟩
  · show 1 * z.toNat ≤ sizeLine
    exact sz (by omega)
  rw [rep_one]
  have s0 := Same.new (Same.refl H) hp0 (.lst [.int 0])
  have s1 := Same.new s0 hp1 (.lst (List.replicate z.toNat (V.int 0)))
  have f1 : H p1 = none := s0.free hp1
  have h1 : upd (upd H p0 (.lst [.int 0])) p1 (.lst (List.replicate z.toNat (V.int 0))) p1 = some (.lst ((List.replicate (z.toNat - 0) 0 ++ figs b 0 m).map V.int)) := by
    rw [upd_same]
    show some (HO.lst _) = some (HO.lst _)
    congr 2
    show _ = (List.replicate z.toNat (0 : Int) ++ []).map V.int
    rw [List.append_nil, List.map_replicate]
  generalize upd (upd H p0 (.lst [.int 0])) p1 (.lst (List.replicate z.toNat (V.int 0))) = H1 at s1 h1 ⊢
  refine ⟨_, rfl, _, rfl, _, _, rfl, rfl, _, rfl, _, rfl, _, _, rfl, ⟨by omega, by omega, by omega, by omega⟩, for_down (lo := z - 1) (n := (z - 1 - (-1)).toNat) (fun i σ H' => ∃ (o : Option V), σ = [some (.int m), some (.int b), some (.int z), some (.ref p1), some (.int (dv b i m)), o] ∧ Same H H' ∧ H' p1 = some (.lst ((List.replicate (z.toNat - i) 0 ++ figs b i m).map V.int)) ∧ i ≤ z.toNat) ⟨_, rfl, s1, h1, Nat.zero_le _⟩ ?_ ?_⟩
  · rintro i σ H' hi ⟨o, rfl, sm, hp, hle⟩
    have hlt : i < z.toNat := by omega
    have hj : ixN ((List.replicate (z.toNat - i) 0 ++ figs b i m).map V.int).length (z - 1 - (i : Int)) = some (z.toNat - i - 1) := by
      rw [List.length_map, List.length_append, List.length_replicate, figs_len]
      unfold ixN
      rw [if_pos (by omega), if_pos (by omega)]
      exact congrArg some (by omega)
    refine ⟨_, rfl, _, rfl, _, _, rfl, rfl, by omega, _, rfl, _, rfl, p1, _, _, _, rfl, rfl, hp, hj, ?_⟩
    refine ⟨_, rfl, _, rfl, _, _, rfl, rfl, ?_, ?_⟩
    · exact ⟨by omega, Nat.lt_of_le_of_lt (Nat.log2_le_self _) (by omega)⟩
    refine ⟨_, by rw [dv_succ]; rfl, sm.upd f1 _, ?_, hlt⟩
    rw [upd_same, figs_front]
    congr 2
    obtain ⟨r, hr3⟩ : ∃ r, z.toNat - i = r + 1 := ⟨z.toNat - i - 1, by omega⟩
    rw [show z.toNat - (i + 1) = r by omega, hr3, Nat.add_sub_cancel, List.replicate_succ', List.append_assoc, List.map_append, List.map_append]
    have l : (List.map V.int (List.replicate r (0 : Int))).length = r := by simp
    rw [List.set_append, if_neg (by rw [l]; omega), l, Nat.sub_self, List.map_append]
    rfl
  · rintro σ H' ⟨o, rfl, sm, hp, hle⟩
    have e : (z - 1 - (-1)).toNat = z.toNat := by omega
    rw [e, Nat.sub_self, List.replicate_zero, List.nil_append] at hp
    exact ⟨_, rfl, q p1 H' sm f1 hp⟩
theorem ok_Cars__RingFamily_unchecked_thing {er : Errs} (EO : ErrOk K mg er) {ca : ClA} (CA : ClOk K mg ca) {fd : FuncData} (F : Fun K "unchecked_thing" "RingFamily.unchecked_thing" s_Cars__RingFamily_unchecked_thing ca.f_Cars__RingFamily_unchecked_thing fd) {fd0 : FuncData} (d_Cars__of_code : MDef P w K mg base ["self", "code"] 2 (sp_Cars__of_code K ca) ca.f_Cars__of_code fd0) {f1 : Addr} {fd1 : FuncData} (d_number_figures : Def P w K mg base "number_figures" ["number", "base", "length"] 1 (sp_number_figures K ca) f1 fd1) : FnOk P w K mg base CX0 3 ca.f_Cars__RingFamily_unchecked_thing fd ["self", "size", "number"] (sp_Cars__RingFamily_unchecked_thing K ca) := by
  refine F.ok sc_Cars__RingFamily_unchecked_thing (fun vs H Q E h => ?_) (fun cdv A outer s H vs Q E hr h => ?_)
  · obtain ⟨x, dx, fs, wd, n, m, rfl, hx, fl, n1, n40, m0, m1, q⟩ := h
    rfl
  obtain ⟨x, dx, fs, wd, n, m, rfl, hx, fl, n1, n40, m0, m1, q⟩ := h
  refine ⟨_, pss_one (ps_ret (pmeth (pv 0) CA.c_Cars CA.mt_Cars_of_code d_Cars__of_code hr (pa_cons (pcall d_number_figures hr (pa_cons (pv 2) (pa_cons (pe_op op_add (pv 1) pe_int) (pa_cons (pe_op op_sub (pv 1) pe_int) pa_nil)))) pa_nil))), ?_⟩
  refine ⟨_, rfl, x, dx, fs, rfl, hx, fl.no "of_code" (by decide) (by decide), _, rfl, _, rfl, _, _, rfl, rfl, _, rfl, _, _, rfl, rfl, m, n + 1, n - 1, rfl, by omega, by omega, by omega, by omega, fun pf H1 s1 ff hf => ?_⟩
  have lf := figs_len (n + 1) (n - 1).toNat m
  have bd := Rg.figs (b := n + 1) (k := (n - 1).toNat) (by omega) m

  refine ⟨x, dx, fs, pf, _, rfl, s1 _ _ hx, fl.no "is_one" (by decide) (by decide), hf, by omega, fun p v H2 s2 f2 h2 v0 v1 car => ?_⟩
  exact q p _ H2 (s1.trans s2) (s1.free f2) h2 (rg_cars bd v0 v1 car)
theorem ok_Cars__Family_thing_of {er : Errs} (EO : ErrOk K mg er) {ca : ClA} (CA : ClOk K mg ca) {fd : FuncData} (F : Fun K "thing_of" "Family.thing_of" s_Cars__Family_thing_of ca.f_Cars__Family_thing_of fd) {fd0 : FuncData} (d_Cars__Family_many : MDef P w K mg base ["self", "size"] 3 (sp_Cars__Family_many K ca er) ca.f_Cars__Family_many fd0) {fd1 : FuncData} (d_Cars__RingFamily_unchecked_thing : MDef P w K mg base ["self", "size", "number"] 3 (sp_Cars__RingFamily_unchecked_thing K ca) ca.f_Cars__RingFamily_unchecked_thing fd1) : FnOk P w K mg base (CX1 P w) 4 ca.f_Cars__Family_thing_of fd ["self", "size", "number"] (sp_Cars__Family_thing_of K ca er) := by
  refine F.okE sc_Cars__Family_thing_of (fun vs H Q E h => ?_) (fun cdv A outer s H vs Q E hr h => ?_)
  · obtain ⟨x, dx, fs, wd, n, m, rfl, hx, fl, q⟩ := h
    rfl
  obtain ⟨x, dx, fs, wd, n, m, rfl, hx, fl, q⟩ := h
  refine ⟨_, pss_cons (ps_set (i := 3) sc_Cars__Family_thing_of.nd rfl (Or.inl rfl) (pmethT thr_def (pv 0) CA.c_Cars CA.mt_Cars_many d_Cars__Family_many hr (pa_cons (pv 1) pa_nil)))
    (pss_cons (ps_if (PW.pt (pw_or (pt_cmpR op_lt (pv 2) pe_int (nomark _)) (pw_or1 (pt_cmpR op_ge (pv 2) (pv 3) (nomark _))))) (pss_one (ps_raise thr_def EO.x_number rfl EO.m_number (pa_cons pe_str pa_nil))) pss_nil)
    (pss_one (ps_ret (pmeth (pv 0) CA.c_Cars CA.mt_Cars_unchecked_thing d_Cars__RingFamily_unchecked_thing hr (pa_cons (pv 1) (pa_cons (pv 2) pa_nil)))))), ?_⟩
  rcases q with ⟨h, q⟩ | ⟨n1, n40, h, q⟩ | ⟨n1, n40, m0, m1, q⟩
  · exact ⟨_, rfl, x, dx, fs, rfl, hx, fl.no "many" (by decide) (by decide), _, rfl, x, dx, fs, wd, n, rfl, hx, fl, .inl ⟨h, q⟩⟩
  · refine ⟨_, rfl, x, dx, fs, rfl, hx, fl.no "many" (by decide) (by decide), _, rfl, x, dx, fs, wd, n, rfl, hx, fl, .inr ⟨n1, n40, fun H1 s1 => ⟨_, rfl, _, _, rfl, rfl, _, rfl, ?_⟩⟩⟩
    by_cases h1 : m < 0
    · exact iteP h1 (iteT ⟨sz (n := 1) (by decide), q _ s1⟩)
    · exact iteN h1 ⟨_, rfl, _, rfl, _, _, rfl, rfl, _, rfl, iteP (by omega) ⟨sz (n := 1) (by decide), q _ s1⟩⟩
  · refine ⟨_, rfl, x, dx, fs, rfl, hx, fl.no "many" (by decide) (by decide), _, rfl, x, dx, fs, wd, n, rfl, hx, fl, .inr ⟨n1, n40, fun H1 s1 => ⟨_, rfl, _, _, rfl, rfl, _, rfl, iteN (by omega) ⟨_, rfl, _, rfl, _, _, rfl, rfl, _, rfl, iteN (by omega) ?_⟩⟩⟩⟩
    exact ⟨_, rfl, x, dx, fs, rfl, s1 _ _ hx, fl.no "unchecked_thing" (by decide) (by decide), _, rfl, _, rfl, x, dx, fs, wd, n, m, rfl, s1 _ _ hx, fl, n1, n40, m0, m1, fun p ns H2 s2 f2 h2 rg => q p ns H2 (s1.trans s2) (s1.free f2) h2 rg⟩
theorem ok_Trees__of_code {er : Errs} (EO : ErrOk K mg er) {ca : ClA} (CA : ClOk K mg ca) {fd : FuncData} (F : Fun K "of_code" "Trees.of_code" s_Trees__of_code ca.f_Trees__of_code fd) (m_list : mg "list" = none) (m_range : mg "range" = none) (m_len : mg "len" = none) (m_enumerate : mg "enumerate" = none) (m_min : mg "min" = none) : FnOk P w K mg base CX0 1 ca.f_Trees__of_code fd ["self", "code"] (sp_Trees__of_code K ca) := by
  refine F.ok sc_Trees__of_code (fun vs H Q E h => ?_) (fun cdv A outer s H vs Q E hr h => ?_)
  · obtain ⟨x, l, cs, rfl, hl, hz, q⟩ := h
    rfl
  obtain ⟨x, l, cs, rfl, hl, hz, q⟩ := h
  refine ⟨_, pss_cons (ps_set (i := 2) sc_Trees__of_code.nd rfl (Or.inr rfl) (pe_op op_cat (pv 1) (pe_lst (pa_cons pe_int pa_nil))))
    (pss_cons (ps_set (i := 3) sc_Trees__of_code.nd rfl (Or.inl rfl) (pe_lr2 rfl rfl m_list rfl m_range (pa_cons pe_int (pa_cons (pe_op op_add (pe_callB call_len_seq rfl m_len bb_len (pa_cons (pv 2) pa_nil)) pe_int) pa_nil))))
    (pss_cons (ps_set (i := 4) sc_Trees__of_code.nd rfl (Or.inl rfl) (pe_op op_rep (pe_lst (pa_cons pe_int pa_nil)) (pe_callB call_len_seq rfl m_len bb_len (pa_cons (pv 2) pa_nil))))
    (pss_cons (ps_for PassesOwn.never rfl (pi_enum rfl m_enumerate (pa_cons (pv 2) pa_nil)) (pg_tup rfl (pgs_cons (pg_name (i := 5) sc_Trees__of_code.nd rfl (Or.inr rfl)) (pgs_cons (pg_name (i := 6) sc_Trees__of_code.nd rfl (Or.inl rfl)) pgs_nil))) (pss_cons (ps_set (i := 7) sc_Trees__of_code.nd rfl (Or.inl rfl) (pe_callB (call_minL rfl) rfl m_min bb_min (pa_cons (pe_comp rfl (pi_list (pv 3)) rfl rfl rfl rfl (N := ["knot", "written", "place"]) (.own (.cap (j := 2) rfl rfl rfl (.cap (j := 5) rfl rfl rfl .nil))) (fun _ _ _ _ _ _ => (pg_name (i := 0) (by show List.Nodup (["knot", "written", "place"] : List Str); decide +kernel) rfl (Or.inl rfl))) (fun _ _ _ _ _ _ => (pts_one (pt_cmpR (op_notinK (K := K) rfl) (pv 0) (pe_slice (sl_listK (K := K) rfl) (pv 1) (po_some (pv 2)) po_none) (by rfl)))) (fun _ _ _ _ _ _ => (pv 0))) pa_nil)))
    (pss_cons (ps_asg (pv 6) (pg_sub (pv 4) (pe_op op_sub (pv 7) pe_int) set_list))
    (pss_one (ps_expr (pe_bm PySem.F.plainAttrs_list PySem.F.slot_list_remove PySem.F.type_list_remove mt_remove (pv 3) (pa_cons (pv 7) pa_nil)))))))
    (pss_one (ps_ret (pv 4)))))), ?_⟩
  refine ⟨_, rfl, (by show 1 ≤ sizeLine; decide), fun p0 hp0 => ?_⟩
  have s1 := Same.new (Same.refl H) hp0 (.lst [.int 0])
  refine ⟨l, p0, _, _, rfl, rfl, s1 _ _ hl, upd_same, ?_, fun pw hpw => ?_⟩
  · rw [List.length_map]; exact sz (by simp; omega)
  have s2 := Same.new s1 hpw (.lst (cs.map V.int ++ [.int 0]))
  have hw2 : upd (upd H p0 (.lst [.int 0])) pw (.lst (cs.map V.int ++ [.int 0])) pw = some (.lst ((cs ++ [0]).map V.int)) := by rw [upd_same, List.map_append]; rfl
  generalize upd (upd H p0 (.lst [.int 0])) pw (.lst (cs.map V.int ++ [.int 0])) = H2 at s2 hw2 ⊢
  have lw : (cs ++ [0]).length = cs.length + 1 := by simp
  have e0 : cs ++ [0] = cs ++ [0] := rfl
  generalize hws : cs ++ [0] = ws at hw2 lw q
  have lwm : (ws.map V.int).length = ws.length := List.length_map _
  refine ⟨_, rfl, pw, _, rfl, .inl (SqL.of hw2), _, _, rfl, rfl, _, _, rfl, ⟨by decide, by decide, by omega, by omega⟩, by omega, fun pt hpt => ?_⟩
  rw [show ((((ws.map V.int).length : Nat) : Int) + 1 - 1).toNat = ws.length by omega, rngV_knots]
  have s3 := Same.new s2 hpt (.lst ((knots ws.length).map V.int))
  have k3 := Same.new (Same.refl H2) hpt (.lst ((knots ws.length).map V.int))
  have ht3 : upd H2 pt (.lst ((knots ws.length).map V.int)) pt = some (.lst ((knots ws.length).map V.int)) := upd_same
  have hw3 := k3 _ _ hw2
  have fpt : H pt = none := s2.free hpt
  generalize upd H2 pt (.lst ((knots ws.length).map V.int)) = H3 at s3 ht3 hw3 ⊢
  refine ⟨(by show 1 ≤ sizeLine; decide), fun q0 hq0 => ?_⟩
  have s4 := Same.new s3 hq0 (.lst [.int 0])
  have k4 := Same.new (Same.refl H3) hq0 (.lst [.int 0])
  refine ⟨_, rfl, pw, _, rfl, .inl (SqL.of (k4 _ _ hw3)), q0, _, _, rfl, rfl, upd_same, by omega, by omega, ?_, fun pe hpe => ?_⟩
  · show 1 * _ ≤ sizeLine
    exact sz (by omega)
  have fpe : H pe = none := s4.free hpe
  have s5 := Same.new s4 hpe (.lst (List.replicate (((ws.map V.int).length : Nat) : Int).toNat [V.int 0]).flatten)
  have k5 := k4.trans (Same.new (Same.refl _) hpe (.lst (List.replicate (((ws.map V.int).length : Nat) : Int).toNat [V.int 0]).flatten))
  have nte : pt ≠ pe := ne_of_none (k4 _ _ ht3) hpe
  have nwe : pw ≠ pe := ne_of_none (k4 _ _ hw3) hpe
  have nwt : pw ≠ pt := ne_of_none hw2 hpt
  have he5 : upd (upd H3 q0 (.lst [.int 0])) pe (.lst (List.replicate (((ws.map V.int).length : Nat) : Int).toNat [V.int 0]).flatten) pe = some (.lst ((List.replicate ws.length (0 : Int)).map V.int)) := by
    rw [upd_same, rep_one, show (((ws.map V.int).length : Nat) : Int).toNat = ws.length by omega, List.map_replicate]
  generalize upd (upd H3 q0 (.lst [.int 0])) pe (.lst (List.replicate (((ws.map V.int).length : Nat) : Int).toNat [V.int 0]).flatten) = H5 at s5 k5 he5 ⊢
  refine ⟨_, rfl, pw, rfl, ⟨_, SqL.of (k5 _ _ hw3)⟩, for_enum (xs := ws.map V.int) (fun i σ H' => ∃ (o1 o2 o3 : Option V) (T done es : List Int), σ = [some (.ref x), some (.ref l), some (.ref pw), some (.ref pt), some (.ref pe), o1, o2, o3] ∧ Same H H' ∧ H' pw = some (.lst (ws.map V.int)) ∧ H' pt = some (.lst (T.map V.int)) ∧ H' pe = some (.lst (es.map V.int)) ∧ es.length = ws.length ∧ (done ++ T).Perm (knots ws.length) ∧ done.length = i ∧ done.map (eld es) = ws.take i ∧ ∀ ts, Dec (ws.drop i) T ts → Dec ws (knots ws.length) (done ++ ts))
    ⟨_, _, _, knots ws.length, [], List.replicate ws.length 0, rfl, s5, k5 _ _ hw3, k5 _ _ ht3, he5, by simp, List.Perm.refl _, rfl, rfl, fun ts h => h⟩ (fun i σ H' _ h => by obtain ⟨_, _, _, _, _, _, _, _, hw, _⟩ := h; exact SqL.of hw) ?_ ?_⟩
  · rintro i v σ H6 U hv ⟨o1, o2, o3, T, done, es, rfl, sm, hw6, ht6, he6, les, pm, ld, hdone, cont⟩ hU
    obtain ⟨c, rfl⟩ := get_int hv
    have hc : ws[i]? = some c := by
      rw [List.getElem?_map] at hv
      cases h : ws[i]? with
      | none => rw [h] at hv; cases hv
      | some d => rw [h] at hv; injection hv with hv; injection hv with hv; rw [hv]
    have hi : i < ws.length := (List.getElem?_eq_some_iff.mp hc).1
    have lT : done.length + T.length = ws.length := by have := pm.length_eq; rw [List.length_append, knots_len] at this; exact this
    have nd : (done ++ T).Nodup := pm.nodup_iff.mpr (knots_nd _)
    have bT : ∀ k ∈ T, 1 ≤ k ∧ k ≤ (ws.length : Int) := fun k hk => mem_knots.mp (pm.mem_iff.mp (List.mem_append_right _ hk))
    have bD : ∀ k ∈ done, 1 ≤ k ∧ k ≤ (ws.length : Int) := fun k hk => mem_knots.mp (pm.mem_iff.mp (List.mem_append_left _ hk))
    have ndT : T.Nodup := (List.nodup_append.mp nd).2.1
    refine ⟨U, _, rfl, SqT.of upd_same, rfl, _, _, rfl, _, _, rfl, rfl, ?_⟩
    have nwU : pw ≠ U := ne_of_none hw6 hU
    have ntU : pt ≠ U := ne_of_none ht6 hU
    have neU : pe ≠ U := ne_of_none he6 hU
    have hw7 := (upd_ne (o := .tup [.int (i : Int), .int c]) nwU).trans hw6
    have ht7 := (upd_ne (o := .tup [.int (i : Int), .int c]) ntU).trans ht6
    have he7 := (upd_ne (o := .tup [.int (i : Int), .int c]) neU).trans he6
    have sm7 := Same.new sm hU (.tup [.int (i : Int), .int c])
    generalize upd H6 U (.tup [.int (i : Int), .int c]) = H7 at hw7 ht7 he7 sm7 ⊢
    have lTm : (T.map V.int).length = T.length := List.length_map _
    refine ⟨_, rfl, pt, rfl, ⟨_, SqL.of ht7⟩, fun D hD => comp_walk (xs := T.map V.int) (fun j ys H' => Same H7 H' ∧ H' D = some (.lst ys) ∧ ys = (frees (ws.drop i) (T.take j)).map V.int ∧ j ≤ T.length) (by rw [lTm]; exact sz (by omega)) ⟨Same.new (Same.refl H7) hD _, upd_same, rfl, Nat.zero_le _⟩ (fun j ys H' hj h => ⟨SqL.of (h.1 _ _ ht7), ?_⟩) (fun j u ys H' R R0 hu h r r0 => ?_) (fun ys H' h => ?_)⟩
    · rw [h.2.2.1, List.length_map]
      unfold frees
      exact Nat.le_trans (List.length_filter_le _ _) (by rw [List.length_take]; omega)
    · obtain ⟨sj, hy, ey, hj⟩ := h
      obtain ⟨k, rfl⟩ := get_int hu
      have hk : T[j]? = some k := by
        rw [List.getElem?_map] at hu
        cases h : T[j]? with
        | none => rw [h] at hu; cases hu
        | some d => rw [h] at hu; injection hu with hu; injection hu with hu; rw [hu]
      have hj' : j < T.length := (List.getElem?_eq_some_iff.mp hk).1
      refine ⟨Ext.set rfl, _, rfl, _, rfl, _, rfl, _, rfl, pw, _, rfl, SqL.of (sj _ _ hw7), fun c2 hc2 => ?_⟩
      rw [cutV_from, ← List.map_drop]
      have nDc : D ≠ c2 := ne_of_none hy hc2
      have hy2 := (upd_ne (o := .lst ((ws.drop i).map V.int)) nDc).trans hy
      have sj2 := Same.new sj hc2 (.lst ((ws.drop i).map V.int))
      refine ⟨k, c2, ws.drop i, rfl, rfl, SqL.of upd_same, _, rfl, ?_⟩
      by_cases hin : k ∈ ws.drop i
      · refine iteNS hin (r0 _ ⟨sj2, hy2, ?_, hj'⟩)
        rw [frees_take hk, if_pos hin, List.append_nil]
        exact ey
      · refine iteNN hin ⟨_, rfl, r _ _ hy2 ⟨sj2.upd hD _, upd_same, ?_, hj'⟩⟩
        rw [frees_take hk, if_neg hin, List.map_append, ← ey]
        rfl
    · obtain ⟨s8, hy, ey, _⟩ := h
      rw [lTm, List.take_length] at ey
      have hne : frees (ws.drop i) T ≠ [] := by
        have hd : ∃ w0, ws.drop i = w0 ++ [0] ∧ w0.length + 1 = T.length := by
          refine ⟨cs.drop i, ?_, ?_⟩
          · rw [← hws, List.drop_append_of_le_length (by omega)]
          · rw [List.length_drop]; omega
        obtain ⟨w0, e, le⟩ := hd
        rw [e]
        exact frees_ne ndT (fun k hk => (bT k hk).1) le
      rw [ey] at hy
      refine ⟨D, frees (ws.drop i) T, rfl, SqL.of hy, hne, fun t ht hmin => ?_⟩
      have sm8 := sm7.trans s8
      have hw8 := s8 _ _ hw7
      have ht8 := s8 _ _ ht7
      have he8 := s8 _ _ he7
      obtain ⟨htT, htw⟩ := mem_frees.mp ht
      have bt := bT t htT
      refine ⟨_, rfl, _, rfl, _, rfl, _, _, rfl, rfl, pe, _, _, _, rfl, rfl, he8, ixN_nat (by omega) (by rw [List.length_map]; omega), ?_⟩
      rw [← List.map_set]
      have ht9 : upd H' pe (.lst ((es.set (t - 1).toNat c).map V.int)) pt = some (.lst (T.map V.int)) := (upd_ne nte).trans ht8
      refine ⟨_, rfl, .inl ⟨rfl, _, SqL.of ht9⟩, _, rfl, pt, T, t, rfl, rfl, ht9, htT, ?_⟩
      have ed : ws.drop i = c :: ws.drop (i + 1) := by rw [List.drop_eq_getElem_cons hi, (List.getElem?_eq_some_iff.mp hc).2]
      have tnd : t ∉ done := fun z => (List.nodup_append.mp nd).2.2 t z t htT rfl
      refine ⟨_, _, _, T.erase t, done ++ [t], es.set (t - 1).toNat c, rfl, (sm8.upd fpe _).upd fpt _, (upd_ne nwt).trans ((upd_ne nwe).trans hw8), upd_same, (upd_ne (Ne.symm nte)).trans upd_same, by rw [List.length_set]; exact les, ?_, by simp [ld], ?_, ?_⟩
      · refine List.Perm.trans ?_ pm
        rw [List.append_assoc]
        exact List.Perm.append_left done (List.perm_cons_erase htT).symm
      · rw [List.map_append, List.take_add_one, hc, ← hdone]
        refine congr (congrArg _ ?_) ?_
        · refine List.map_congr_left fun k hk => ?_
          rw [eld_set bt.1 (by omega) k (bD k hk).1, if_neg (fun z => tnd (by rw [← z]; exact hk))]
        · show [eld (es.set (t - 1).toNat c) t] = [c]
          rw [eld_set bt.1 (by omega) t bt.1, if_pos rfl]
      · intro ts hts
        rw [List.append_assoc]
        refine cont _ ?_
        rw [ed] at ht hmin ⊢
        exact .cons ht hmin hts
  · rintro σ H6 ⟨o1, o2, o3, T, done, es, rfl, sm, hw6, ht6, he6, les, pm, ld, hdone, cont⟩
    rw [lwm] at ld hdone cont
    have lT : done.length + T.length = ws.length := by have := pm.length_eq; rw [List.length_append, knots_len] at this; exact this
    have hT : T = [] := List.eq_nil_of_length_eq_zero (by omega)
    subst hT
    rw [List.take_length] at hdone
    rw [List.drop_length] at cont
    have dec := cont [] .nil
    rw [List.append_nil, lw] at dec
    exact ⟨_, rfl, q pe es done H6 sm fpe he6 (by omega) dec hdone⟩
theorem ok_Trees__RingFamily_unchecked_thing {er : Errs} (EO : ErrOk K mg er) {ca : ClA} (CA : ClOk K mg ca) {fd : FuncData} (F : Fun K "unchecked_thing" "RingFamily.unchecked_thing" s_Trees__RingFamily_unchecked_thing ca.f_Trees__RingFamily_unchecked_thing fd) {fd0 : FuncData} (d_Trees__of_code : MDef P w K mg base ["self", "code"] 1 (sp_Trees__of_code K ca) ca.f_Trees__of_code fd0) {f1 : Addr} {fd1 : FuncData} (d_number_figures : Def P w K mg base "number_figures" ["number", "base", "length"] 1 (sp_number_figures K ca) f1 fd1) : FnOk P w K mg base CX0 2 ca.f_Trees__RingFamily_unchecked_thing fd ["self", "size", "number"] (sp_Trees__RingFamily_unchecked_thing K ca) := by
  refine F.ok sc_Trees__RingFamily_unchecked_thing (fun vs H Q E h => ?_) (fun cdv A outer s H vs Q E hr h => ?_)
  · obtain ⟨x, dx, fs, wd, n, m, rfl, hx, fl, n1, n40, m0, m1, q⟩ := h
    rfl
  obtain ⟨x, dx, fs, wd, n, m, rfl, hx, fl, n1, n40, m0, m1, q⟩ := h
  refine ⟨_, pss_one (ps_ret (pmeth (pv 0) CA.c_Trees CA.mt_Trees_of_code d_Trees__of_code hr (pa_cons (pcall d_number_figures hr (pa_cons (pv 2) (pa_cons (pe_op op_add (pv 1) pe_int) (pa_cons (pe_op op_sub (pv 1) pe_int) pa_nil)))) pa_nil))), ?_⟩
  refine ⟨_, rfl, x, dx, fs, rfl, hx, fl.no "of_code" (by decide) (by decide), _, rfl, _, rfl, _, _, rfl, rfl, _, rfl, _, _, rfl, rfl, m, n + 1, n - 1, rfl, by omega, by omega, by omega, by omega, fun pf H1 s1 ff hf => ?_⟩
  have lf := figs_len (n + 1) (n - 1).toNat m
  have bd := Rg.figs (b := n + 1) (k := (n - 1).toNat) (by omega) m

  refine ⟨x, pf, _, rfl, hf, by omega, fun p es ts H2 s2 f2 h2 le dec e => ?_⟩
  exact q p _ H2 (s1.trans s2) (s1.free f2) h2 (rg_trees bd le dec e)
theorem ok_Trees__Family_thing_of {er : Errs} (EO : ErrOk K mg er) {ca : ClA} (CA : ClOk K mg ca) {fd : FuncData} (F : Fun K "thing_of" "Family.thing_of" s_Trees__Family_thing_of ca.f_Trees__Family_thing_of fd) {fd0 : FuncData} (d_Trees__Family_many : MDef P w K mg base ["self", "size"] 3 (sp_Trees__Family_many K ca er) ca.f_Trees__Family_many fd0) {fd1 : FuncData} (d_Trees__RingFamily_unchecked_thing : MDef P w K mg base ["self", "size", "number"] 2 (sp_Trees__RingFamily_unchecked_thing K ca) ca.f_Trees__RingFamily_unchecked_thing fd1) : FnOk P w K mg base (CX1 P w) 4 ca.f_Trees__Family_thing_of fd ["self", "size", "number"] (sp_Trees__Family_thing_of K ca er) := by
  refine F.okE sc_Trees__Family_thing_of (fun vs H Q E h => ?_) (fun cdv A outer s H vs Q E hr h => ?_)
  · obtain ⟨x, dx, fs, wd, n, m, rfl, hx, fl, q⟩ := h
    rfl
  obtain ⟨x, dx, fs, wd, n, m, rfl, hx, fl, q⟩ := h
  refine ⟨_, pss_cons (ps_set (i := 3) sc_Trees__Family_thing_of.nd rfl (Or.inl rfl) (pmethT thr_def (pv 0) CA.c_Trees CA.mt_Trees_many d_Trees__Family_many hr (pa_cons (pv 1) pa_nil)))
    (pss_cons (ps_if (PW.pt (pw_or (pt_cmpR op_lt (pv 2) pe_int (nomark _)) (pw_or1 (pt_cmpR op_ge (pv 2) (pv 3) (nomark _))))) (pss_one (ps_raise thr_def EO.x_number rfl EO.m_number (pa_cons pe_str pa_nil))) pss_nil)
    (pss_one (ps_ret (pmeth (pv 0) CA.c_Trees CA.mt_Trees_unchecked_thing d_Trees__RingFamily_unchecked_thing hr (pa_cons (pv 1) (pa_cons (pv 2) pa_nil)))))), ?_⟩
  rcases q with ⟨h, q⟩ | ⟨n1, n40, h, q⟩ | ⟨n1, n40, m0, m1, q⟩
  · exact ⟨_, rfl, x, dx, fs, rfl, hx, fl.no "many" (by decide) (by decide), _, rfl, x, dx, fs, wd, n, rfl, hx, fl, .inl ⟨h, q⟩⟩
  · refine ⟨_, rfl, x, dx, fs, rfl, hx, fl.no "many" (by decide) (by decide), _, rfl, x, dx, fs, wd, n, rfl, hx, fl, .inr ⟨n1, n40, fun H1 s1 => ⟨_, rfl, _, _, rfl, rfl, _, rfl, ?_⟩⟩⟩
    by_cases h1 : m < 0
    · exact iteP h1 (iteT ⟨sz (n := 1) (by decide), q _ s1⟩)
    · exact iteN h1 ⟨_, rfl, _, rfl, _, _, rfl, rfl, _, rfl, iteP (by omega) ⟨sz (n := 1) (by decide), q _ s1⟩⟩
  · refine ⟨_, rfl, x, dx, fs, rfl, hx, fl.no "many" (by decide) (by decide), _, rfl, x, dx, fs, wd, n, rfl, hx, fl, .inr ⟨n1, n40, fun H1 s1 => ⟨_, rfl, _, _, rfl, rfl, _, rfl, iteN (by omega) ⟨_, rfl, _, rfl, _, _, rfl, rfl, _, rfl, iteN (by omega) ?_⟩⟩⟩⟩
    exact ⟨_, rfl, x, dx, fs, rfl, s1 _ _ hx, fl.no "unchecked_thing" (by decide) (by decide), _, rfl, _, rfl, x, dx, fs, wd, n, m, rfl, s1 _ _ hx, fl, n1, n40, m0, m1, fun p ns H2 s2 f2 h2 rg => q p ns H2 (s1.trans s2) (s1.free f2) h2 rg⟩
theorem ok_Codes__of_code {er : Errs} (EO : ErrOk K mg er) {ca : ClA} (CA : ClOk K mg ca) {fd : FuncData} (F : Fun K "of_code" "Codes.of_code" s_Codes__of_code ca.f_Codes__of_code fd) (m_list : mg "list" = none) : FnOk P w K mg base CX0 1 ca.f_Codes__of_code fd ["self", "code"] (sp_Codes__of_code K ca) := by
  refine F.ok sc_Codes__of_code (fun vs H Q E h => ?_) (fun cdv A outer s H vs Q E hr h => ?_)
  · obtain ⟨x, l, ns, rfl, hl, q⟩ := h
    rfl
  obtain ⟨x, l, ns, rfl, hl, q⟩ := h
  refine ⟨_, pss_one (ps_ret (pe_callTy call_list_of rfl m_list bb_list (pa_cons (pv 1) pa_nil))), ?_⟩
  exact ⟨_, rfl, l, _, rfl, .inl hl, fun p hp => q p _ (Same.new (Same.refl H) hp _) hp upd_same⟩
theorem ok_Codes__RingFamily_unchecked_thing {er : Errs} (EO : ErrOk K mg er) {ca : ClA} (CA : ClOk K mg ca) {fd : FuncData} (F : Fun K "unchecked_thing" "RingFamily.unchecked_thing" s_Codes__RingFamily_unchecked_thing ca.f_Codes__RingFamily_unchecked_thing fd) {fd0 : FuncData} (d_Codes__of_code : MDef P w K mg base ["self", "code"] 1 (sp_Codes__of_code K ca) ca.f_Codes__of_code fd0) {f1 : Addr} {fd1 : FuncData} (d_number_figures : Def P w K mg base "number_figures" ["number", "base", "length"] 1 (sp_number_figures K ca) f1 fd1) : FnOk P w K mg base CX0 2 ca.f_Codes__RingFamily_unchecked_thing fd ["self", "size", "number"] (sp_Codes__RingFamily_unchecked_thing K ca) := by
  refine F.ok sc_Codes__RingFamily_unchecked_thing (fun vs H Q E h => ?_) (fun cdv A outer s H vs Q E hr h => ?_)
  · obtain ⟨x, dx, fs, wd, n, m, rfl, hx, fl, n1, n40, m0, m1, q⟩ := h
    rfl
  obtain ⟨x, dx, fs, wd, n, m, rfl, hx, fl, n1, n40, m0, m1, q⟩ := h
  refine ⟨_, pss_one (ps_ret (pmeth (pv 0) CA.c_Codes CA.mt_Codes_of_code d_Codes__of_code hr (pa_cons (pcall d_number_figures hr (pa_cons (pv 2) (pa_cons (pe_op op_add (pv 1) pe_int) (pa_cons (pe_op op_sub (pv 1) pe_int) pa_nil)))) pa_nil))), ?_⟩
  refine ⟨_, rfl, x, dx, fs, rfl, hx, fl.no "of_code" (by decide) (by decide), _, rfl, _, rfl, _, _, rfl, rfl, _, rfl, _, _, rfl, rfl, m, n + 1, n - 1, rfl, by omega, by omega, by omega, by omega, fun pf H1 s1 ff hf => ?_⟩
  have lf := figs_len (n + 1) (n - 1).toNat m
  have bd := Rg.figs (b := n + 1) (k := (n - 1).toNat) (by omega) m

  exact ⟨x, pf, _, rfl, SqL.of hf, fun p H2 s2 f2 h2 => q p _ H2 (s1.trans s2) (s1.free f2) h2 (rg_codes bd)⟩
theorem ok_Codes__Family_thing_of {er : Errs} (EO : ErrOk K mg er) {ca : ClA} (CA : ClOk K mg ca) {fd : FuncData} (F : Fun K "thing_of" "Family.thing_of" s_Codes__Family_thing_of ca.f_Codes__Family_thing_of fd) {fd0 : FuncData} (d_Codes__Family_many : MDef P w K mg base ["self", "size"] 3 (sp_Codes__Family_many K ca er) ca.f_Codes__Family_many fd0) {fd1 : FuncData} (d_Codes__RingFamily_unchecked_thing : MDef P w K mg base ["self", "size", "number"] 2 (sp_Codes__RingFamily_unchecked_thing K ca) ca.f_Codes__RingFamily_unchecked_thing fd1) : FnOk P w K mg base (CX1 P w) 4 ca.f_Codes__Family_thing_of fd ["self", "size", "number"] (sp_Codes__Family_thing_of K ca er) := by
  refine F.okE sc_Codes__Family_thing_of (fun vs H Q E h => ?_) (fun cdv A outer s H vs Q E hr h => ?_)
  · obtain ⟨x, dx, fs, wd, n, m, rfl, hx, fl, q⟩ := h
    rfl
  obtain ⟨x, dx, fs, wd, n, m, rfl, hx, fl, q⟩ := h
  refine ⟨_, pss_cons (ps_set (i := 3) sc_Codes__Family_thing_of.nd rfl (Or.inl rfl) (pmethT thr_def (pv 0) CA.c_Codes CA.mt_Codes_many d_Codes__Family_many hr (pa_cons (pv 1) pa_nil)))
    (pss_cons (ps_if (PW.pt (pw_or (pt_cmpR op_lt (pv 2) pe_int (nomark _)) (pw_or1 (pt_cmpR op_ge (pv 2) (pv 3) (nomark _))))) (pss_one (ps_raise thr_def EO.x_number rfl EO.m_number (pa_cons pe_str pa_nil))) pss_nil)
    (pss_one (ps_ret (pmeth (pv 0) CA.c_Codes CA.mt_Codes_unchecked_thing d_Codes__RingFamily_unchecked_thing hr (pa_cons (pv 1) (pa_cons (pv 2) pa_nil)))))), ?_⟩
  rcases q with ⟨h, q⟩ | ⟨n1, n40, h, q⟩ | ⟨n1, n40, m0, m1, q⟩
  · exact ⟨_, rfl, x, dx, fs, rfl, hx, fl.no "many" (by decide) (by decide), _, rfl, x, dx, fs, wd, n, rfl, hx, fl, .inl ⟨h, q⟩⟩
  · refine ⟨_, rfl, x, dx, fs, rfl, hx, fl.no "many" (by decide) (by decide), _, rfl, x, dx, fs, wd, n, rfl, hx, fl, .inr ⟨n1, n40, fun H1 s1 => ⟨_, rfl, _, _, rfl, rfl, _, rfl, ?_⟩⟩⟩
    by_cases h1 : m < 0
    · exact iteP h1 (iteT ⟨sz (n := 1) (by decide), q _ s1⟩)
    · exact iteN h1 ⟨_, rfl, _, rfl, _, _, rfl, rfl, _, rfl, iteP (by omega) ⟨sz (n := 1) (by decide), q _ s1⟩⟩
  · refine ⟨_, rfl, x, dx, fs, rfl, hx, fl.no "many" (by decide) (by decide), _, rfl, x, dx, fs, wd, n, rfl, hx, fl, .inr ⟨n1, n40, fun H1 s1 => ⟨_, rfl, _, _, rfl, rfl, _, rfl, iteN (by omega) ⟨_, rfl, _, rfl, _, _, rfl, rfl, _, rfl, iteN (by omega) ?_⟩⟩⟩⟩
    exact ⟨_, rfl, x, dx, fs, rfl, s1 _ _ hx, fl.no "unchecked_thing" (by decide) (by decide), _, rfl, _, rfl, x, dx, fs, wd, n, m, rfl, s1 _ _ hx, fl, n1, n40, m0, m1, fun p ns H2 s2 f2 h2 rg => q p ns H2 (s1.trans s2) (s1.free f2) h2 rg⟩
theorem ok__law_number_refused {er : Errs} (EO : ErrOk K mg er) {ca : ClA} (CA : ClOk K mg ca) {f : Addr} {fd : FuncData} (F : Fun K "_law_number_refused" "_law_number_refused" s__law_number_refused f fd) {fd0 : FuncData} (d_Cars__Family_thing_of : MDef P w K mg base ["self", "size", "number"] 4 (sp_Cars__Family_thing_of K ca er) ca.f_Cars__Family_thing_of fd0) {fd1 : FuncData} (d_Trees__Family_thing_of : MDef P w K mg base ["self", "size", "number"] 4 (sp_Trees__Family_thing_of K ca er) ca.f_Trees__Family_thing_of fd1) {fd2 : FuncData} (d_Codes__Family_thing_of : MDef P w K mg base ["self", "size", "number"] 4 (sp_Codes__Family_thing_of K ca er) ca.f_Codes__Family_thing_of fd2) {f3 : Addr} {fd3 : FuncData} (d__law_classes : Def P w K mg base "_law_classes" ["_law_error"] 1 (sp__law_classes K ca er) f3 fd3) : FnOk P w K mg base CX0 5 f fd ["_law_kin_here", "_law_size", "_law_number"] (sp__law_number_refused K ca er) := by
  refine F.ok sc__law_number_refused (fun vs H Q E h => ?_) (fun cdv A outer s H vs Q E hr h => ?_)
  · obtain ⟨x, dx, fs, wd, w, n, m, t, rfl, hw, o0, o1, o2, fl, hn, q⟩ := h
    rfl
  obtain ⟨x, dx, fs, wd, w, n, m, t, rfl, hw, o0, o1, o2, fl, hn, q⟩ := h
  refine ⟨_, pss_cons (ps_set (i := 3) sc__law_number_refused.nd rfl (Or.inl rfl) pe_non)
    (pss_cons (ps_tryAs (i := 4) rfl rfl rfl sc__law_number_refused.nd rfl rfl rfl EO.m_kin (px_eit (px_meth (fun _ _ => (pv 0)) CA.c_Codes CA.mt_Codes_thing_of d_Codes__Family_thing_of hr (fun _ _ => (pa_cons (pv 1) (pa_cons (pv 2) pa_nil)))) (px_eit (px_meth (fun _ _ => (pv 0)) CA.c_Trees CA.mt_Trees_thing_of d_Trees__Family_thing_of hr (fun _ _ => (pa_cons (pv 1) (pa_cons (pv 2) pa_nil)))) (px_meth (fun _ _ => (pv 0)) CA.c_Cars CA.mt_Cars_thing_of d_Cars__Family_thing_of hr (fun _ _ => (pa_cons (pv 1) (pa_cons (pv 2) pa_nil)))))) (fun _ => (pss_one (ps_set (i := 3) sc__law_number_refused.nd rfl (Or.inl rfl) (pv 4)))))
    (pss_one (ps_ret (pcall d__law_classes hr (pa_cons (pv 3) pa_nil))))), ?_⟩
  have ob := And.intro o0 (And.intro o1 o2)
  rcases (by omega : w = 0 ∨ w = 1 ∨ w = 2) with rfl | rfl | rfl
  · have hx := ob.1 rfl
    rcases hn with ⟨hn, rfl⟩ | ⟨n1, n40, hm, rfl⟩
    · refine (.inl ⟨_, rfl, x, dx, fs, rfl, hx, fl.no "thing_of" (by decide) (by decide), _, rfl, _, rfl, x, dx, fs, wd, n, m, rfl, hx, fl, .inl ⟨hn, EO.c_size, fun e he => ⟨_, rfl, ?_⟩⟩⟩)
      refine ⟨_, rfl, e, er.size, _, rfl, upd_same, .inl ⟨rfl, rfl⟩, fun p H' sm fp hp => ?_⟩
      have s2 := Same.new (Same.refl H) he (excO e (.ref er.size))
      exact q p H' (s2.trans sm) (s2.free fp) hp
    · refine (.inl ⟨_, rfl, x, dx, fs, rfl, hx, fl.no "thing_of" (by decide) (by decide), _, rfl, _, rfl, x, dx, fs, wd, n, m, rfl, hx, fl, .inr (.inl ⟨n1, n40, hm, fun H1 s1 => ⟨EO.c_number, fun e he => ⟨_, rfl, ?_⟩⟩⟩)⟩)
      refine ⟨_, rfl, e, er.number, _, rfl, upd_same, .inr (.inl ⟨rfl, rfl⟩), fun p H' sm fp hp => ?_⟩
      have s2 := Same.new s1 he (excO e (.ref er.number))
      exact q p H' (s2.trans sm) (s2.free fp) hp
  · have hx := ob.2.1 rfl
    rcases hn with ⟨hn, rfl⟩ | ⟨n1, n40, hm, rfl⟩
    · refine (.inr (.inl ⟨_, rfl, x, dx, fs, rfl, hx, fl.no "thing_of" (by decide) (by decide), _, rfl, _, rfl, x, dx, fs, wd, n, m, rfl, hx, fl, .inl ⟨hn, EO.c_size, fun e he => ⟨_, rfl, ?_⟩⟩⟩))
      refine ⟨_, rfl, e, er.size, _, rfl, upd_same, .inl ⟨rfl, rfl⟩, fun p H' sm fp hp => ?_⟩
      have s2 := Same.new (Same.refl H) he (excO e (.ref er.size))
      exact q p H' (s2.trans sm) (s2.free fp) hp
    · refine (.inr (.inl ⟨_, rfl, x, dx, fs, rfl, hx, fl.no "thing_of" (by decide) (by decide), _, rfl, _, rfl, x, dx, fs, wd, n, m, rfl, hx, fl, .inr (.inl ⟨n1, n40, hm, fun H1 s1 => ⟨EO.c_number, fun e he => ⟨_, rfl, ?_⟩⟩⟩)⟩))
      refine ⟨_, rfl, e, er.number, _, rfl, upd_same, .inr (.inl ⟨rfl, rfl⟩), fun p H' sm fp hp => ?_⟩
      have s2 := Same.new s1 he (excO e (.ref er.number))
      exact q p H' (s2.trans sm) (s2.free fp) hp
  · have hx := ob.2.2 rfl
    rcases hn with ⟨hn, rfl⟩ | ⟨n1, n40, hm, rfl⟩
    · refine (.inr (.inr ⟨_, rfl, x, dx, fs, rfl, hx, fl.no "thing_of" (by decide) (by decide), _, rfl, _, rfl, x, dx, fs, wd, n, m, rfl, hx, fl, .inl ⟨hn, EO.c_size, fun e he => ⟨_, rfl, ?_⟩⟩⟩))
      refine ⟨_, rfl, e, er.size, _, rfl, upd_same, .inl ⟨rfl, rfl⟩, fun p H' sm fp hp => ?_⟩
      have s2 := Same.new (Same.refl H) he (excO e (.ref er.size))
      exact q p H' (s2.trans sm) (s2.free fp) hp
    · refine (.inr (.inr ⟨_, rfl, x, dx, fs, rfl, hx, fl.no "thing_of" (by decide) (by decide), _, rfl, _, rfl, x, dx, fs, wd, n, m, rfl, hx, fl, .inr (.inl ⟨n1, n40, hm, fun H1 s1 => ⟨EO.c_number, fun e he => ⟨_, rfl, ?_⟩⟩⟩)⟩))
      refine ⟨_, rfl, e, er.number, _, rfl, upd_same, .inr (.inl ⟨rfl, rfl⟩), fun p H' sm fp hp => ?_⟩
      have s2 := Same.new s1 he (excO e (.ref er.number))
      exact q p H' (s2.trans sm) (s2.free fp) hp
theorem ok_Codes__size_of {er : Errs} (EO : ErrOk K mg er) {ca : ClA} (CA : ClOk K mg ca) {fd : FuncData} (F : Fun K "size_of" "Codes.size_of" s_Codes__size_of ca.f_Codes__size_of fd) (m_len : mg "len" = none) : FnOk P w K mg base CX0 1 ca.f_Codes__size_of fd ["self", "thing"] (sp_Codes__size_of K ca) := by
  refine F.ok sc_Codes__size_of (fun vs H Q E h => ?_) (fun cdv A outer s H vs Q E hr h => ?_)
  · obtain ⟨x, l, ns, cs, rfl, hl, rg, q⟩ := h
    rfl
  obtain ⟨x, l, ns, cs, rfl, hl, rg, q⟩ := h
  refine ⟨_, pss_one (ps_ret (pe_op op_add (pe_callB call_len_seq rfl m_len bb_len (pa_cons (pv 1) pa_nil)) pe_int)), ?_⟩
  obtain ⟨_, rfl⟩ := rg
  refine ⟨_, rfl, l, _, rfl, .inl (SqL.of hl), _, _, rfl, rfl, ?_⟩
  try dsimp only
  rw [List.length_map]
  exact q
theorem ok_Trees__size_of {er : Errs} (EO : ErrOk K mg er) {ca : ClA} (CA : ClOk K mg ca) {fd : FuncData} (F : Fun K "size_of" "Trees.size_of" s_Trees__size_of ca.f_Trees__size_of fd) (m_len : mg "len" = none) : FnOk P w K mg base CX0 1 ca.f_Trees__size_of fd ["self", "thing"] (sp_Trees__size_of K ca) := by
  refine F.ok sc_Trees__size_of (fun vs H Q E h => ?_) (fun cdv A outer s H vs Q E hr h => ?_)
  · obtain ⟨x, l, ns, cs, rfl, hl, rg, q⟩ := h
    rfl
  obtain ⟨x, l, ns, cs, rfl, hl, rg, q⟩ := h
  refine ⟨_, pss_one (ps_ret (pe_callB call_len_seq rfl m_len bb_len (pa_cons (pv 1) pa_nil))), ?_⟩
  refine ⟨_, rfl, l, _, rfl, .inl (SqL.of hl), ?_⟩
  have e : ((ns.map V.int).length : Int) = (cs.length : Int) + 1 := by rw [List.length_map, rg.lenO (by decide)]; omega
  rw [e]
  exact q
theorem ok_Cars__size_of {er : Errs} (EO : ErrOk K mg er) {ca : ClA} (CA : ClOk K mg ca) {fd : FuncData} (F : Fun K "size_of" "Cars.size_of" s_Cars__size_of ca.f_Cars__size_of fd) (m_len : mg "len" = none) : FnOk P w K mg base CX0 1 ca.f_Cars__size_of fd ["self", "thing"] (sp_Cars__size_of K ca) := by
  refine F.ok sc_Cars__size_of (fun vs H Q E h => ?_) (fun cdv A outer s H vs Q E hr h => ?_)
  · obtain ⟨x, l, ns, cs, rfl, hl, rg, q⟩ := h
    rfl
  obtain ⟨x, l, ns, cs, rfl, hl, rg, q⟩ := h
  refine ⟨_, pss_one (ps_ret (pe_callB call_len_seq rfl m_len bb_len (pa_cons (pv 1) pa_nil))), ?_⟩
  refine ⟨_, rfl, l, _, rfl, .inl (SqL.of hl), ?_⟩
  have e : ((ns.map V.int).length : Int) = (cs.length : Int) + 1 := by rw [List.length_map, rg.lenO (by decide)]; omega
  rw [e]
  exact q
theorem ok_law {er : Errs} (EO : ErrOk K mg er) {ca : ClA} (CA : ClOk K mg ca) {f : Addr} {fd : FuncData} (F : Fun K "law" "law" s_law f fd) {f0 : Addr} {fd0 : FuncData} (d__law_cell_at : Def P w K mg base "_law_cell_at" ["_law_script", "_law_k"] 1 (sp__law_cell_at K ca) f0 fd0) {f1 : Addr} {fd1 : FuncData} (d__law_amiss : Def P w K mg base "_law_amiss" ["_law_word", "_law_size", "_law_far", "_law_some"] 1 (sp__law_amiss K ca) f1 fd1) {f2 : Addr} {fd2 : FuncData} (d__law_refused : Def P w K mg base "_law_refused" ["_law_word", "_law_some", "_law_thing"] 9 (sp__law_refused K ca er) f2 fd2) {f3 : Addr} {fd3 : FuncData} (d__law_kin : Def P w K mg base "_law_kin" ["_law_word"] 7 (sp__law_kin K ca) f3 fd3) {f4 : Addr} {fd4 : FuncData} (d__law_size_refused : Def P w K mg base "_law_size_refused" ["_law_kin_here", "_law_size"] 4 (sp__law_size_refused K ca er) f4 fd4) {f5 : Addr} {fd5 : FuncData} (d__law_number_refused : Def P w K mg base "_law_number_refused" ["_law_kin_here", "_law_size", "_law_number"] 5 (sp__law_number_refused K ca er) f5 fd5) {fd6 : FuncData} (d_Codes__Family_thing_of : MDef P w K mg base ["self", "size", "number"] 4 (sp_Codes__Family_thing_of K ca er) ca.f_Codes__Family_thing_of fd6) {fd7 : FuncData} (d_Trees__Family_thing_of : MDef P w K mg base ["self", "size", "number"] 4 (sp_Trees__Family_thing_of K ca er) ca.f_Trees__Family_thing_of fd7) {fd8 : FuncData} (d_Cars__Family_thing_of : MDef P w K mg base ["self", "size", "number"] 4 (sp_Cars__Family_thing_of K ca er) ca.f_Cars__Family_thing_of fd8) {fd9 : FuncData} (d_Codes__size_of : MDef P w K mg base ["self", "thing"] 1 (sp_Codes__size_of K ca) ca.f_Codes__size_of fd9) {fd10 : FuncData} (d_Trees__size_of : MDef P w K mg base ["self", "thing"] 1 (sp_Trees__size_of K ca) ca.f_Trees__size_of fd10) {fd11 : FuncData} (d_Cars__size_of : MDef P w K mg base ["self", "thing"] 1 (sp_Cars__size_of K ca) ca.f_Cars__size_of fd11) {fd12 : FuncData} (d_Codes__is_one : MDef P w K mg base ["self", "thing"] 1 (sp_Codes__is_one K ca) ca.f_Codes__is_one fd12) {fd13 : FuncData} (d_Trees__is_one : MDef P w K mg base ["self", "thing"] 2 (sp_Trees__is_one K ca) ca.f_Trees__is_one fd13) {fd14 : FuncData} (d_Cars__is_one : MDef P w K mg base ["self", "thing"] 1 (sp_Cars__is_one K ca) ca.f_Cars__is_one fd14) (m_min : mg "min" = none) (m_list : mg "list" = none) (m_range : mg "range" = none) (m_int : mg "int" = none) (m_isinstance : mg "isinstance" = none) : FnOk P w K mg base CX0 10 f fd ["_law_script"] (sp_law K ca er) := by
  refine F.ok sc_law (fun vs H Q E h => ?_) (fun cdv A outer s H vs Q E hr h => ?_)
  · obtain ⟨a, ns, rfl, hS, h63, q⟩ := h
    rfl
  obtain ⟨a, ns, rfl, hS, h63, q⟩ := h
  refine ⟨_, pss_cons (ps_set (i := 1) sc_law.nd rfl (Or.inl rfl) (pe_op op_mod (pcall d__law_cell_at hr (pa_cons (pv 0) (pa_cons pe_int pa_nil))) pe_int))
    (pss_cons (ps_set (i := 2) sc_law.nd rfl (Or.inl rfl) (pe_op op_add pe_int (pe_op op_mod (pe_op op_fdivL (pcall d__law_cell_at hr (pa_cons (pv 0) (pa_cons pe_int pa_nil))) pe_int) pe_int)))
    (pss_cons (ps_set (i := 3) sc_law.nd rfl (Or.inl rfl) (pe_op op_mod (pcall d__law_cell_at hr (pa_cons (pv 0) (pa_cons pe_int pa_nil))) (pe_op op_pow pe_int pe_int)))
    (pss_cut (ps_if (pt_cmpR op_eq (pe_op op_mod (pcall d__law_cell_at hr (pa_cons (pv 0) (pa_cons pe_int pa_nil))) pe_int) pe_int (nomark _)) (pss_one (ps_set (i := 3) sc_law.nd rfl (Or.inl rfl) (pe_op op_mod (pv 3) pe_int))) pss_nil)
    (pss_cons (ps_set (i := 4) sc_law.nd rfl (Or.inl rfl) (pcall d__law_amiss hr (pa_cons (pv 1) (pa_cons (pe_callB (call_min2 rfl) rfl m_min bb_min (pa_cons (pv 2) (pa_cons pe_int pa_nil))) (pa_cons (pv 3) (pa_cons (pe_op op_mod (pcall d__law_cell_at hr (pa_cons (pv 0) (pa_cons pe_int pa_nil))) pe_int) pa_nil))))))
    (pss_cons (ps_set (i := 5) sc_law.nd rfl (Or.inl rfl) (pe_callTy call_list_of rfl m_list bb_list (pa_cons (pv 4) pa_nil)))
    (pss_cons (ps_for PassesOwn.never rfl (pi_range1 rfl m_range (pa_cons (pe_op op_add pe_int (pe_callTy call_int1 rfl m_int bb_int (pa_cons (pe_cmpR op_eq (pv 1) pe_int (nomark _)) pa_nil))) pa_nil)) (pg_name (i := 6) sc_law.nd rfl (Or.inl rfl)) (pss_one (ps_if (pt_cmpR (op_ne_list (hu0 hr)) (pcall d__law_refused hr (pa_cons (pv 1) (pa_cons (pv 6) (pa_cons (pv 5) pa_nil)))) (pe_lst (pa_cons pe_str pa_nil)) (nomark _)) (pss_one (ps_ret pe_bl)) pss_nil)))
    (pss_cons (ps_set (i := 7) sc_law.nd rfl (Or.inl rfl) (pcall d__law_kin hr (pa_cons (pv 1) pa_nil)))
    (pss_cons (ps_set (i := 8) sc_law.nd rfl (Or.inl rfl) pe_int)
    (pss_cons (ps_for PassesOwn.never rfl (pi_range1 rfl m_range (pa_cons (pe_op op_sub (pv 2) pe_int) pa_nil)) (pg_name (i := 9) sc_law.nd rfl (Or.inl rfl)) (pss_one (ps_set (i := 8) sc_law.nd rfl (Or.inl rfl) (pe_op op_mul (pv 8) (pe_op op_add (pv 2) pe_int)))))
    (pss_cons (ps_for PassesOwn.never rfl (pi_list (pe_lst (pa_cons (pe_op op_add pe_int (pv 3)) (pa_cons (pe_op op_sub pe_int (pv 3)) pa_nil)))) (pg_name (i := 10) sc_law.nd rfl (Or.inl rfl)) (pss_one (ps_if (PW.pt (pw_or (pt_cmpR (op_ne_list (hu0 hr)) (pcall d__law_size_refused hr (pa_cons (pv 7) (pa_cons (pv 10) pa_nil))) (pe_lst (pa_cons pe_str pa_nil)) (nomark _)) (pw_or1 (pt_cmpR (op_ne_list (hu0 hr)) (pcall d__law_number_refused hr (pa_cons (pv 7) (pa_cons (pv 10) (pa_cons (pv 8) pa_nil)))) (pe_lst (pa_cons pe_str pa_nil)) (nomark _))))) (pss_one (ps_ret pe_bl)) pss_nil)))
    (pss_cons (ps_for PassesOwn.never rfl (pi_list (pe_lst (pa_cons (pv 8) (pa_cons (pe_op op_add (pv 8) (pv 3)) (pa_cons (pe_op op_sub pe_int pe_int) (pa_cons (pe_op op_sub (pe_op op_sub pe_int pe_int) (pv 3)) pa_nil)))))) (pg_name (i := 10) sc_law.nd rfl (Or.inl rfl)) (pss_one (ps_if (pt_cmpR (op_ne_list (hu0 hr)) (pcall d__law_number_refused hr (pa_cons (pv 7) (pa_cons (pv 2) (pa_cons (pv 10) pa_nil)))) (pe_lst (pa_cons pe_str pa_nil)) (nomark _)) (pss_one (ps_ret pe_bl)) pss_nil)))
    (pss_cons (ps_set (i := 11) sc_law.nd rfl (Or.inl rfl) (pe_eit (pmeth (pv 7) CA.c_Codes CA.mt_Codes_thing_of d_Codes__Family_thing_of hr (pa_cons (pv 2) (pa_cons (pe_op op_mod (pv 3) (pv 8)) pa_nil))) (pe_eit (pmeth (pv 7) CA.c_Trees CA.mt_Trees_thing_of d_Trees__Family_thing_of hr (pa_cons (pv 2) (pa_cons (pe_op op_mod (pv 3) (pv 8)) pa_nil))) (pmeth (pv 7) CA.c_Cars CA.mt_Cars_thing_of d_Cars__Family_thing_of hr (pa_cons (pv 2) (pa_cons (pe_op op_mod (pv 3) (pv 8)) pa_nil))))))
    (pss_one (ps_ret (pe_and (pe_cmpR (op_eq_list (hu0 hr)) (pv 5) (pv 4) (nomark _)) (pe_and (pe_callB call_isinst rfl m_isinstance bb_isinstance (pa_cons (pv 7) (pa_cons (pe_glob (v := .ref ca.C_Family) rfl CA.m_Family rfl) pa_nil))) (pe_and (pe_cmpR op_eq (pe_eit (pmeth (pv 7) CA.c_Codes CA.mt_Codes_size_of d_Codes__size_of hr (pa_cons (pv 11) pa_nil)) (pe_eit (pmeth (pv 7) CA.c_Trees CA.mt_Trees_size_of d_Trees__size_of hr (pa_cons (pv 11) pa_nil)) (pmeth (pv 7) CA.c_Cars CA.mt_Cars_size_of d_Cars__size_of hr (pa_cons (pv 11) pa_nil)))) (pv 2) (nomark _)) (pe_one (pe_cmpR op_isB (pe_eit (pmeth (pv 7) CA.c_Codes CA.mt_Codes_is_one d_Codes__is_one hr (pa_cons (pv 11) pa_nil)) (pe_eit (pmeth (pv 7) CA.c_Trees CA.mt_Trees_is_one d_Trees__is_one hr (pa_cons (pv 11) pa_nil)) (pmeth (pv 7) CA.c_Cars CA.mt_Cars_is_one d_Cars__is_one hr (pa_cons (pv 11) pa_nil)))) pe_bl (nomark _)))))))))))))))))))), ?_⟩
  have w0 := Int.emod_nonneg (ns.getD (0 : Int).toNat 0) (show (3 : Int) ≠ 0 by decide)
  have w3 := Int.emod_lt_of_pos (ns.getD (0 : Int).toNat 0) (show (0 : Int) < 3 by decide)
  refine ⟨_, rfl, a, ns, 0, rfl, hS, by decide, _, _, rfl, rfl, pm (by decide), ?_⟩
  try dsimp only
  generalize ns.getD (0 : Int).toNat 0 % 3 = w at w0 w3 ⊢
  have z0 := Int.emod_nonneg (ns.getD (0 : Int).toNat 0 / 3) (show (40 : Int) ≠ 0 by decide)
  have z1 := Int.emod_lt_of_pos (ns.getD (0 : Int).toNat 0 / 3) (show (0 : Int) < 40 by decide)
  refine ⟨_, rfl, a, ns, 0, rfl, hS, by decide, _, _, rfl, rfl, ⟨by decide, by decide +kernel⟩, _, _, rfl, rfl, pm (by decide), _, _, rfl, rfl, ?_⟩
  try dsimp only
  obtain ⟨n, en⟩ : ∃ n, 1 + ns.getD (0 : Int).toNat 0 / 3 % 40 = n := ⟨_, rfl⟩
  rw [en]
  have n1 : 1 ≤ n := by omega
  have n40 : n ≤ 40 := by omega
  have y0 := Int.emod_nonneg (ns.getD (1 : Int).toNat 0) (show (10 : Int) ^ 59 ≠ 0 by decide)
  refine ⟨_, rfl, a, ns, 1, rfl, hS, by decide, _, _, rfl, rfl, ⟨by decide, by decide, by decide⟩, _, _, rfl, rfl, (by show (0 : Int) < 10 ^ 59; decide), ?_⟩
  obtain ⟨f', ef, f0'⟩ : ∃ f', ns.getD (1 : Int).toNat 0 % 10 ^ 59 = f' ∧ 0 ≤ f' := ⟨_, rfl, y0⟩
  refine ⟨fun σ H' => ∃ (f : Int) (o4 o5 o6 o7 o8 o9 o10 o11 : Option V), σ = [some (.ref a), some (.int w), some (.int n), some (.int f), o4, o5, o6, o7, o8, o9, o10, o11] ∧ H = H' ∧ 0 ≤ f, ?_, ?_⟩
  · refine ⟨_, rfl, a, ns, 2, rfl, hS, by decide, _, _, rfl, rfl, pm (by decide), rfl, _, rfl, ite2 (fun _ => ?_) (fun _ => ⟨_, _, _, _, _, _, _, _, _, rfl, rfl, y0⟩)⟩
    exact ⟨_, rfl, _, _, rfl, rfl, pm (by decide), _, _, _, _, _, _, _, _, _, rfl, rfl, Int.emod_nonneg _ (by decide)⟩
  rintro σ H' ⟨f, o4, o5, o6, o7, o8, o9, o10, o11, rfl, rfl, f0⟩
  have s0 := Int.emod_nonneg (ns.getD (3 : Int).toNat 0) (show (400 : Int) ≠ 0 by decide)
  have s4 := Int.emod_lt_of_pos (ns.getD (3 : Int).toNat 0) (show (0 : Int) < 400 by decide)
  refine ⟨_, rfl, _, rfl, _, _, rfl, _, rfl, _, rfl, a, ns, 3, rfl, hS, by decide, _, _, rfl, rfl, pm (by decide), w, _, f, _, rfl, w0, w3, ?_, ?_, f0, s0, s4, fun pt ms H2 s2 f2 h2 hm bad => ?_⟩
  · show 1 ≤ (if (38 : Int) < n then 38 else n)
    split <;> omega
  · show (if (38 : Int) < n then 38 else n) ≤ 38
    split <;> omega
  refine ⟨_, rfl, pt, _, rfl, .inl (SqL.of h2), fun ph hph0 => ?_⟩
  have k3 := Same.new (Same.refl H2) hph0 (.lst (ms.map V.int))
  have hph : upd H2 ph (.lst (ms.map V.int)) ph = some (.lst (ms.map V.int)) := upd_same
  have hpt3 := k3 _ _ h2
  have s3 := s2.trans k3
  generalize upd H2 ph (.lst (ms.map V.int)) = H3 at k3 hph hpt3 s3 ⊢
  have e4 : (4 : Int) + (if decide (V.int w = V.int 2) = true then 1 else 0) = if w = 2 then 5 else 4 := by
    by_cases h : w = 2
    · rw [if_pos (decide_eq_true (congrArg V.int h)), if_pos h]; rfl
    · rw [if_neg (fun z => h (by injection (of_decide_eq_true z))), if_neg h]; rfl
  refine ⟨_, rfl, rfl, .inr ⟨_, rfl, _, _, rfl, rfl, _, rfl, ?_, ?_, for_range (lo := 0) (n := ((4 : Int) + (if decide (V.int w = V.int 2) = true then 1 else 0)).toNat) (fun i σ H' => ∃ (o6 o7 o8 o9 o10 o11 : Option V), σ = [some (.ref a), some (.int w), some (.int n), some (.int f), some (.ref pt), some (.ref ph), o6, o7, o8, o9, o10, o11] ∧ Same H3 H') ⟨_, _, _, _, _, _, rfl, Same.refl H3⟩ ?_ ?_⟩⟩
  · rw [e4]; split <;> omega
  · rw [e4]; split <;> omega
  · rintro i σ H4 hi ⟨o6, o7, o8, o9, o10, o11, rfl, sm⟩
    rw [e4] at hi
    refine ⟨_, rfl, _, rfl, _, rfl, w, _, ph, ms, rfl, w0, w3, by omega, (fun e => by rw [if_pos e] at hi; omega), (fun e => by rw [if_neg e] at hi; omega), sm _ _ hph, hm, bad, fun p H5 s5 f5 h5 => ?_⟩
    refine ne_told h5 fun H6 s6 => ⟨_, rfl, iteF ⟨_, _, _, _, _, _, rfl, (sm.trans s5).trans s6⟩⟩
  rintro σ H4' ⟨o6, o7, o8, o9, o10, o11, rfl, sm4⟩
  refine ⟨_, rfl, w, rfl, w0, w3, fun x dx fs H4 s14 => ?_⟩
  have u4 := sm4.trans s14
  refine ⟨fun ew hx fl => ?_, fun ew hx fl => ?_, fun ew hx fl => ?_⟩
  · skip
    subst ew
    obtain ⟨x1, x2, x3⟩ : (((0 : Nat) = 0 → H4 x = some (.ins ca.C_Codes dx fs)) ∧ ((0 : Nat) = 1 → H4 x = some (.ins ca.C_Trees dx fs)) ∧ ((0 : Nat) = 2 → H4 x = some (.ins ca.C_Cars dx fs))) := ⟨fun _ => hx, fun e => absurd e (by decide), fun e => absurd e (by decide)⟩
    refine ⟨_, rfl, _, _, rfl, rfl, _, rfl, by omega, by omega, for_range (lo := 0) (n := (n - 1).toNat) (fun i σ H' => ∃ (o6 o9 o10 o11 : Option V), σ = [some (.ref a), some (.int 0), some (.int n), some (.int f), some (.ref pt), some (.ref ph), o6, some (.ref x), some (.int (pw (n + 1) i)), o9, o10, o11] ∧ H4 = H') ⟨_, _, _, _, rfl, rfl⟩ ?_ ?_⟩
    · rintro i σ H' hi ⟨o6, o9, o10, o11, rfl, rfl⟩
      exact ⟨_, rfl, _, rfl, _, _, rfl, rfl, _, _, rfl, rfl, .inr ⟨by omega, by omega⟩, _, _, _, _, rfl, rfl⟩
    rintro σ H' ⟨o6, o9, o10, o11, rfl, rfl⟩
    have pp := pw_pos (b := n + 1) (by omega) (n - 1).toNat
    have ph4 := u4 _ _ hph
    have pt4 := u4 _ _ hpt3
    refine ⟨_, rfl, _, _, rfl, rfl, _, rfl, _, _, rfl, rfl, (by show 2 ≤ sizeLine; decide), fun l1 hl1 => ?_⟩
    have v5 := Same.new (Same.refl H4) hl1 (.lst [.int (41 + f), .int (0 - f)])
    refine ⟨l1, rfl, ⟨_, SqL.of upd_same⟩, for_list (xs := [.int (41 + f), .int (0 - f)]) (fun i σ H' => ∃ (o6 o9 o10 o11 : Option V), σ = [some (.ref a), some (.int 0), some (.int n), some (.int f), some (.ref pt), some (.ref ph), o6, some (.ref x), some (.int (pw (n + 1) (n - 1).toNat)), o9, o10, o11] ∧ Same H4 H' ∧ H' l1 = some (.lst [.int (41 + f), .int (0 - f)])) ⟨_, _, _, _, rfl, v5, upd_same⟩ (fun i σ H' _ h => by obtain ⟨_, _, _, _, _, _, h⟩ := h; exact SqL.of h) ?_ ?_⟩
    · rintro i v σ H5 hv ⟨o6, o9, o10, o11, rfl, sm, hl5⟩
      obtain ⟨c, rfl, hc⟩ : ∃ c, v = V.int c ∧ (c < 1 ∨ 40 < c) := by
        have := List.mem_of_getElem? hv
        simp only [List.mem_cons, List.not_mem_nil, or_false] at this
        rcases this with rfl | rfl
        · exact ⟨_, rfl, .inr (by omega)⟩
        · exact ⟨_, rfl, .inl (by omega)⟩
      refine ⟨_, rfl, _, rfl, x, dx, fs, _, 0, c, rfl, by decide, fun e => sm _ _ (x1 e), fun e => sm _ _ (x2 e), fun e => sm _ _ (x3 e), fl, hc, fun p H6 s6 f6 h6 => ?_⟩
      refine ne_told h6 fun H7 s7 => ⟨_, rfl, iteF ?_⟩
      have s57 := s6.trans s7
      have sm7 := sm.trans s57
      refine ⟨_, rfl, _, rfl, _, rfl, x, dx, fs, _, 0, c, _, _, rfl, by decide, fun e => sm7 _ _ (x1 e), fun e => sm7 _ _ (x2 e), fun e => sm7 _ _ (x3 e), fl, .inl ⟨hc, rfl⟩, fun p H8 s8 f8 h8 => ?_⟩
      refine ne_told h8 fun H9 s9 => ⟨_, rfl, iteF ?_⟩
      have s79 := s8.trans s9
      exact ⟨_, _, _, _, rfl, sm7.trans s79, (s57.trans s79) _ _ hl5⟩
    rintro σ H5 ⟨o6, o9, o10, o11, rfl, sm5, _⟩
    refine ⟨_, rfl, _, rfl, _, rfl, _, _, rfl, rfl, _, _, rfl, rfl, _, _, rfl, rfl, _, rfl, _, _, rfl, rfl, (by show 4 ≤ sizeLine; decide), fun l2 hl2 => ?_⟩
    have v6 := Same.new sm5 hl2 (.lst [.int (pw (n + 1) (n - 1).toNat), .int (pw (n + 1) (n - 1).toNat + f), .int (0 - 1), .int (0 - 1 - f)])
    refine ⟨l2, rfl, ⟨_, SqL.of upd_same⟩, for_list (xs := [.int (pw (n + 1) (n - 1).toNat), .int (pw (n + 1) (n - 1).toNat + f), .int (0 - 1), .int (0 - 1 - f)]) (fun i σ H' => ∃ (o6 o9 o10 o11 : Option V), σ = [some (.ref a), some (.int 0), some (.int n), some (.int f), some (.ref pt), some (.ref ph), o6, some (.ref x), some (.int (pw (n + 1) (n - 1).toNat)), o9, o10, o11] ∧ Same H4 H' ∧ H' l2 = some (.lst [.int (pw (n + 1) (n - 1).toNat), .int (pw (n + 1) (n - 1).toNat + f), .int (0 - 1), .int (0 - 1 - f)])) ⟨_, _, _, _, rfl, v6, upd_same⟩ (fun i σ H' _ h => by obtain ⟨_, _, _, _, _, _, h⟩ := h; exact SqL.of h) ?_ ?_⟩
    · rintro i v σ H6 hv ⟨o6, o9, o10, o11, rfl, sm, hl5⟩
      obtain ⟨c, rfl, hc⟩ : ∃ c, v = V.int c ∧ (c < 0 ∨ pw (n + 1) (n - 1).toNat ≤ c) := by
        have := List.mem_of_getElem? hv
        simp only [List.mem_cons, List.not_mem_nil, or_false] at this
        rcases this with rfl | rfl | rfl | rfl
        · exact ⟨_, rfl, .inr (by omega)⟩
        · exact ⟨_, rfl, .inr (by omega)⟩
        · exact ⟨_, rfl, .inl (by omega)⟩
        · exact ⟨_, rfl, .inl (by omega)⟩
      refine ⟨_, rfl, _, rfl, _, rfl, x, dx, fs, _, 0, n, c, _, rfl, by decide, fun e => sm _ _ (x1 e), fun e => sm _ _ (x2 e), fun e => sm _ _ (x3 e), fl, .inr ⟨n1, n40, hc, rfl⟩, fun p H8 s8 f8 h8 => ?_⟩
      refine ne_told h8 fun H9 s9 => ⟨_, rfl, iteF ?_⟩
      have s79 := s8.trans s9
      exact ⟨_, _, _, _, rfl, sm.trans s79, s79 _ _ hl5⟩
    rintro σ H6 ⟨o6, o9, o10, o11, rfl, sm6, _⟩
    have hx6 := sm6 _ _ hx
    refine (.inl ⟨_, rfl, x, dx, fs, rfl, hx6, fl.no "thing_of" (by decide) (by decide), _, rfl, _, rfl, _, rfl, _, _, rfl, rfl, pp, x, dx, fs, _, n, f % pw (n + 1) (n - 1).toNat, rfl, hx6, fl, .inr (.inr ⟨n1, n40, Int.emod_nonneg _ (by omega), Int.emod_lt_of_pos _ pp, fun pg gs H7 s7 f7 h7 rg => ?_⟩)⟩)
    have s67 := sm6.trans s7
    have hx7 := s7 _ _ hx6
    have lf := figs_len (n + 1) (n - 1).toNat (f % pw (n + 1) (n - 1).toNat)
    have lg := rg.len
    refine ⟨_, rfl, _, rfl, ph, pt, _, _, rfl, rfl, SqL.of (s67 _ _ ph4), SqL.of (s67 _ _ pt4), flat_ints _, flat_ints _, _, rfl, ?_⟩
    rw [eqL_self]
    refine iteT ⟨_, rfl, _, _, _, _, _, rfl, relRef, CA.in_Codes.ty hx7, CA.kit_Codes_Family, _, rfl, iteT ((.inl ⟨_, rfl, x, dx, fs, rfl, hx7, fl.no "size_of" (by decide) (by decide), _, rfl, x, pg, gs, _, rfl, h7, rg, _, rfl, rfl, _, rfl, ?_⟩))⟩
    refine iteP (congrArg V.int (by omega)) ((.inl ⟨_, rfl, x, dx, fs, rfl, hx7, fl.no "is_one" (by decide) (by decide), _, rfl, x, pg, gs, rfl, h7, (by omega), fun H8 s8 => ?_⟩))
    have one : inC gs = true := by
      have e : gs = _ := rg.2
      rw [e]
      exact (inC_iff _).mpr rg.1
    rw [one]
    refine ⟨_, rfl, ?_⟩
    rw [decide_eq_true rfl]
    exact q _

  · skip
    subst ew
    obtain ⟨x1, x2, x3⟩ : (((1 : Nat) = 0 → H4 x = some (.ins ca.C_Codes dx fs)) ∧ ((1 : Nat) = 1 → H4 x = some (.ins ca.C_Trees dx fs)) ∧ ((1 : Nat) = 2 → H4 x = some (.ins ca.C_Cars dx fs))) := ⟨fun e => absurd e (by decide), fun _ => hx, fun e => absurd e (by decide)⟩
    refine ⟨_, rfl, _, _, rfl, rfl, _, rfl, by omega, by omega, for_range (lo := 0) (n := (n - 1).toNat) (fun i σ H' => ∃ (o6 o9 o10 o11 : Option V), σ = [some (.ref a), some (.int 1), some (.int n), some (.int f), some (.ref pt), some (.ref ph), o6, some (.ref x), some (.int (pw (n + 1) i)), o9, o10, o11] ∧ H4 = H') ⟨_, _, _, _, rfl, rfl⟩ ?_ ?_⟩
    · rintro i σ H' hi ⟨o6, o9, o10, o11, rfl, rfl⟩
      exact ⟨_, rfl, _, rfl, _, _, rfl, rfl, _, _, rfl, rfl, .inr ⟨by omega, by omega⟩, _, _, _, _, rfl, rfl⟩
    rintro σ H' ⟨o6, o9, o10, o11, rfl, rfl⟩
    have pp := pw_pos (b := n + 1) (by omega) (n - 1).toNat
    have ph4 := u4 _ _ hph
    have pt4 := u4 _ _ hpt3
    refine ⟨_, rfl, _, _, rfl, rfl, _, rfl, _, _, rfl, rfl, (by show 2 ≤ sizeLine; decide), fun l1 hl1 => ?_⟩
    have v5 := Same.new (Same.refl H4) hl1 (.lst [.int (41 + f), .int (0 - f)])
    refine ⟨l1, rfl, ⟨_, SqL.of upd_same⟩, for_list (xs := [.int (41 + f), .int (0 - f)]) (fun i σ H' => ∃ (o6 o9 o10 o11 : Option V), σ = [some (.ref a), some (.int 1), some (.int n), some (.int f), some (.ref pt), some (.ref ph), o6, some (.ref x), some (.int (pw (n + 1) (n - 1).toNat)), o9, o10, o11] ∧ Same H4 H' ∧ H' l1 = some (.lst [.int (41 + f), .int (0 - f)])) ⟨_, _, _, _, rfl, v5, upd_same⟩ (fun i σ H' _ h => by obtain ⟨_, _, _, _, _, _, h⟩ := h; exact SqL.of h) ?_ ?_⟩
    · rintro i v σ H5 hv ⟨o6, o9, o10, o11, rfl, sm, hl5⟩
      obtain ⟨c, rfl, hc⟩ : ∃ c, v = V.int c ∧ (c < 1 ∨ 40 < c) := by
        have := List.mem_of_getElem? hv
        simp only [List.mem_cons, List.not_mem_nil, or_false] at this
        rcases this with rfl | rfl
        · exact ⟨_, rfl, .inr (by omega)⟩
        · exact ⟨_, rfl, .inl (by omega)⟩
      refine ⟨_, rfl, _, rfl, x, dx, fs, _, 1, c, rfl, by decide, fun e => sm _ _ (x1 e), fun e => sm _ _ (x2 e), fun e => sm _ _ (x3 e), fl, hc, fun p H6 s6 f6 h6 => ?_⟩
      refine ne_told h6 fun H7 s7 => ⟨_, rfl, iteF ?_⟩
      have s57 := s6.trans s7
      have sm7 := sm.trans s57
      refine ⟨_, rfl, _, rfl, _, rfl, x, dx, fs, _, 1, c, _, _, rfl, by decide, fun e => sm7 _ _ (x1 e), fun e => sm7 _ _ (x2 e), fun e => sm7 _ _ (x3 e), fl, .inl ⟨hc, rfl⟩, fun p H8 s8 f8 h8 => ?_⟩
      refine ne_told h8 fun H9 s9 => ⟨_, rfl, iteF ?_⟩
      have s79 := s8.trans s9
      exact ⟨_, _, _, _, rfl, sm7.trans s79, (s57.trans s79) _ _ hl5⟩
    rintro σ H5 ⟨o6, o9, o10, o11, rfl, sm5, _⟩
    refine ⟨_, rfl, _, rfl, _, rfl, _, _, rfl, rfl, _, _, rfl, rfl, _, _, rfl, rfl, _, rfl, _, _, rfl, rfl, (by show 4 ≤ sizeLine; decide), fun l2 hl2 => ?_⟩
    have v6 := Same.new sm5 hl2 (.lst [.int (pw (n + 1) (n - 1).toNat), .int (pw (n + 1) (n - 1).toNat + f), .int (0 - 1), .int (0 - 1 - f)])
    refine ⟨l2, rfl, ⟨_, SqL.of upd_same⟩, for_list (xs := [.int (pw (n + 1) (n - 1).toNat), .int (pw (n + 1) (n - 1).toNat + f), .int (0 - 1), .int (0 - 1 - f)]) (fun i σ H' => ∃ (o6 o9 o10 o11 : Option V), σ = [some (.ref a), some (.int 1), some (.int n), some (.int f), some (.ref pt), some (.ref ph), o6, some (.ref x), some (.int (pw (n + 1) (n - 1).toNat)), o9, o10, o11] ∧ Same H4 H' ∧ H' l2 = some (.lst [.int (pw (n + 1) (n - 1).toNat), .int (pw (n + 1) (n - 1).toNat + f), .int (0 - 1), .int (0 - 1 - f)])) ⟨_, _, _, _, rfl, v6, upd_same⟩ (fun i σ H' _ h => by obtain ⟨_, _, _, _, _, _, h⟩ := h; exact SqL.of h) ?_ ?_⟩
    · rintro i v σ H6 hv ⟨o6, o9, o10, o11, rfl, sm, hl5⟩
      obtain ⟨c, rfl, hc⟩ : ∃ c, v = V.int c ∧ (c < 0 ∨ pw (n + 1) (n - 1).toNat ≤ c) := by
        have := List.mem_of_getElem? hv
        simp only [List.mem_cons, List.not_mem_nil, or_false] at this
        rcases this with rfl | rfl | rfl | rfl
        · exact ⟨_, rfl, .inr (by omega)⟩
        · exact ⟨_, rfl, .inr (by omega)⟩
        · exact ⟨_, rfl, .inl (by omega)⟩
        · exact ⟨_, rfl, .inl (by omega)⟩
      refine ⟨_, rfl, _, rfl, _, rfl, x, dx, fs, _, 1, n, c, _, rfl, by decide, fun e => sm _ _ (x1 e), fun e => sm _ _ (x2 e), fun e => sm _ _ (x3 e), fl, .inr ⟨n1, n40, hc, rfl⟩, fun p H8 s8 f8 h8 => ?_⟩
      refine ne_told h8 fun H9 s9 => ⟨_, rfl, iteF ?_⟩
      have s79 := s8.trans s9
      exact ⟨_, _, _, _, rfl, sm.trans s79, s79 _ _ hl5⟩
    rintro σ H6 ⟨o6, o9, o10, o11, rfl, sm6, _⟩
    have hx6 := sm6 _ _ hx
    refine (.inr (.inl ⟨_, rfl, x, dx, fs, rfl, hx6, fl.no "thing_of" (by decide) (by decide), _, rfl, _, rfl, _, rfl, _, _, rfl, rfl, pp, x, dx, fs, _, n, f % pw (n + 1) (n - 1).toNat, rfl, hx6, fl, .inr (.inr ⟨n1, n40, Int.emod_nonneg _ (by omega), Int.emod_lt_of_pos _ pp, fun pg gs H7 s7 f7 h7 rg => ?_⟩)⟩))
    have s67 := sm6.trans s7
    have hx7 := s7 _ _ hx6
    have lf := figs_len (n + 1) (n - 1).toNat (f % pw (n + 1) (n - 1).toNat)
    have lg := rg.len
    refine ⟨_, rfl, _, rfl, ph, pt, _, _, rfl, rfl, SqL.of (s67 _ _ ph4), SqL.of (s67 _ _ pt4), flat_ints _, flat_ints _, _, rfl, ?_⟩
    rw [eqL_self]
    refine iteT ⟨_, rfl, _, _, _, _, _, rfl, relRef, CA.in_Trees.ty hx7, CA.kit_Trees_Family, _, rfl, iteT ((.inr (.inl ⟨_, rfl, x, dx, fs, rfl, hx7, fl.no "size_of" (by decide) (by decide), _, rfl, x, pg, gs, _, rfl, h7, rg, _, rfl, rfl, _, rfl, ?_⟩)))⟩
    refine iteP (congrArg V.int (by omega)) ((.inr (.inl ⟨_, rfl, x, dx, fs, rfl, hx7, fl.no "is_one" (by decide) (by decide), _, rfl, x, pg, gs, rfl, h7, (by omega), fun H8 s8 => ?_⟩)))
    rw [rg.2.1]
    refine ⟨_, rfl, ?_⟩
    rw [decide_eq_true rfl]
    exact q _

  · skip
    subst ew
    obtain ⟨x1, x2, x3⟩ : (((2 : Nat) = 0 → H4 x = some (.ins ca.C_Codes dx fs)) ∧ ((2 : Nat) = 1 → H4 x = some (.ins ca.C_Trees dx fs)) ∧ ((2 : Nat) = 2 → H4 x = some (.ins ca.C_Cars dx fs))) := ⟨fun e => absurd e (by decide), fun e => absurd e (by decide), fun _ => hx⟩
    refine ⟨_, rfl, _, _, rfl, rfl, _, rfl, by omega, by omega, for_range (lo := 0) (n := (n - 1).toNat) (fun i σ H' => ∃ (o6 o9 o10 o11 : Option V), σ = [some (.ref a), some (.int 2), some (.int n), some (.int f), some (.ref pt), some (.ref ph), o6, some (.ref x), some (.int (pw (n + 1) i)), o9, o10, o11] ∧ H4 = H') ⟨_, _, _, _, rfl, rfl⟩ ?_ ?_⟩
    · rintro i σ H' hi ⟨o6, o9, o10, o11, rfl, rfl⟩
      exact ⟨_, rfl, _, rfl, _, _, rfl, rfl, _, _, rfl, rfl, .inr ⟨by omega, by omega⟩, _, _, _, _, rfl, rfl⟩
    rintro σ H' ⟨o6, o9, o10, o11, rfl, rfl⟩
    have pp := pw_pos (b := n + 1) (by omega) (n - 1).toNat
    have ph4 := u4 _ _ hph
    have pt4 := u4 _ _ hpt3
    refine ⟨_, rfl, _, _, rfl, rfl, _, rfl, _, _, rfl, rfl, (by show 2 ≤ sizeLine; decide), fun l1 hl1 => ?_⟩
    have v5 := Same.new (Same.refl H4) hl1 (.lst [.int (41 + f), .int (0 - f)])
    refine ⟨l1, rfl, ⟨_, SqL.of upd_same⟩, for_list (xs := [.int (41 + f), .int (0 - f)]) (fun i σ H' => ∃ (o6 o9 o10 o11 : Option V), σ = [some (.ref a), some (.int 2), some (.int n), some (.int f), some (.ref pt), some (.ref ph), o6, some (.ref x), some (.int (pw (n + 1) (n - 1).toNat)), o9, o10, o11] ∧ Same H4 H' ∧ H' l1 = some (.lst [.int (41 + f), .int (0 - f)])) ⟨_, _, _, _, rfl, v5, upd_same⟩ (fun i σ H' _ h => by obtain ⟨_, _, _, _, _, _, h⟩ := h; exact SqL.of h) ?_ ?_⟩
    · rintro i v σ H5 hv ⟨o6, o9, o10, o11, rfl, sm, hl5⟩
      obtain ⟨c, rfl, hc⟩ : ∃ c, v = V.int c ∧ (c < 1 ∨ 40 < c) := by
        have := List.mem_of_getElem? hv
        simp only [List.mem_cons, List.not_mem_nil, or_false] at this
        rcases this with rfl | rfl
        · exact ⟨_, rfl, .inr (by omega)⟩
        · exact ⟨_, rfl, .inl (by omega)⟩
      refine ⟨_, rfl, _, rfl, x, dx, fs, _, 2, c, rfl, by decide, fun e => sm _ _ (x1 e), fun e => sm _ _ (x2 e), fun e => sm _ _ (x3 e), fl, hc, fun p H6 s6 f6 h6 => ?_⟩
      refine ne_told h6 fun H7 s7 => ⟨_, rfl, iteF ?_⟩
      have s57 := s6.trans s7
      have sm7 := sm.trans s57
      refine ⟨_, rfl, _, rfl, _, rfl, x, dx, fs, _, 2, c, _, _, rfl, by decide, fun e => sm7 _ _ (x1 e), fun e => sm7 _ _ (x2 e), fun e => sm7 _ _ (x3 e), fl, .inl ⟨hc, rfl⟩, fun p H8 s8 f8 h8 => ?_⟩
      refine ne_told h8 fun H9 s9 => ⟨_, rfl, iteF ?_⟩
      have s79 := s8.trans s9
      exact ⟨_, _, _, _, rfl, sm7.trans s79, (s57.trans s79) _ _ hl5⟩
    rintro σ H5 ⟨o6, o9, o10, o11, rfl, sm5, _⟩
    refine ⟨_, rfl, _, rfl, _, rfl, _, _, rfl, rfl, _, _, rfl, rfl, _, _, rfl, rfl, _, rfl, _, _, rfl, rfl, (by show 4 ≤ sizeLine; decide), fun l2 hl2 => ?_⟩
    have v6 := Same.new sm5 hl2 (.lst [.int (pw (n + 1) (n - 1).toNat), .int (pw (n + 1) (n - 1).toNat + f), .int (0 - 1), .int (0 - 1 - f)])
    refine ⟨l2, rfl, ⟨_, SqL.of upd_same⟩, for_list (xs := [.int (pw (n + 1) (n - 1).toNat), .int (pw (n + 1) (n - 1).toNat + f), .int (0 - 1), .int (0 - 1 - f)]) (fun i σ H' => ∃ (o6 o9 o10 o11 : Option V), σ = [some (.ref a), some (.int 2), some (.int n), some (.int f), some (.ref pt), some (.ref ph), o6, some (.ref x), some (.int (pw (n + 1) (n - 1).toNat)), o9, o10, o11] ∧ Same H4 H' ∧ H' l2 = some (.lst [.int (pw (n + 1) (n - 1).toNat), .int (pw (n + 1) (n - 1).toNat + f), .int (0 - 1), .int (0 - 1 - f)])) ⟨_, _, _, _, rfl, v6, upd_same⟩ (fun i σ H' _ h => by obtain ⟨_, _, _, _, _, _, h⟩ := h; exact SqL.of h) ?_ ?_⟩
    · rintro i v σ H6 hv ⟨o6, o9, o10, o11, rfl, sm, hl5⟩
      obtain ⟨c, rfl, hc⟩ : ∃ c, v = V.int c ∧ (c < 0 ∨ pw (n + 1) (n - 1).toNat ≤ c) := by
        have := List.mem_of_getElem? hv
        simp only [List.mem_cons, List.not_mem_nil, or_false] at this
        rcases this with rfl | rfl | rfl | rfl
        · exact ⟨_, rfl, .inr (by omega)⟩
        · exact ⟨_, rfl, .inr (by omega)⟩
        · exact ⟨_, rfl, .inl (by omega)⟩
        · exact ⟨_, rfl, .inl (by omega)⟩
      refine ⟨_, rfl, _, rfl, _, rfl, x, dx, fs, _, 2, n, c, _, rfl, by decide, fun e => sm _ _ (x1 e), fun e => sm _ _ (x2 e), fun e => sm _ _ (x3 e), fl, .inr ⟨n1, n40, hc, rfl⟩, fun p H8 s8 f8 h8 => ?_⟩
      refine ne_told h8 fun H9 s9 => ⟨_, rfl, iteF ?_⟩
      have s79 := s8.trans s9
      exact ⟨_, _, _, _, rfl, sm.trans s79, s79 _ _ hl5⟩
    rintro σ H6 ⟨o6, o9, o10, o11, rfl, sm6, _⟩
    have hx6 := sm6 _ _ hx
    refine (.inr (.inr ⟨_, rfl, x, dx, fs, rfl, hx6, fl.no "thing_of" (by decide) (by decide), _, rfl, _, rfl, _, rfl, _, _, rfl, rfl, pp, x, dx, fs, _, n, f % pw (n + 1) (n - 1).toNat, rfl, hx6, fl, .inr (.inr ⟨n1, n40, Int.emod_nonneg _ (by omega), Int.emod_lt_of_pos _ pp, fun pg gs H7 s7 f7 h7 rg => ?_⟩)⟩))
    have s67 := sm6.trans s7
    have hx7 := s7 _ _ hx6
    have lf := figs_len (n + 1) (n - 1).toNat (f % pw (n + 1) (n - 1).toNat)
    have lg := rg.len
    refine ⟨_, rfl, _, rfl, ph, pt, _, _, rfl, rfl, SqL.of (s67 _ _ ph4), SqL.of (s67 _ _ pt4), flat_ints _, flat_ints _, _, rfl, ?_⟩
    rw [eqL_self]
    refine iteT ⟨_, rfl, _, _, _, _, _, rfl, relRef, CA.in_Cars.ty hx7, CA.kit_Cars_Family, _, rfl, iteT ((.inr (.inr ⟨_, rfl, x, dx, fs, rfl, hx7, fl.no "size_of" (by decide) (by decide), _, rfl, x, pg, gs, _, rfl, h7, rg, _, rfl, rfl, _, rfl, ?_⟩)))⟩
    refine iteP (congrArg V.int (by omega)) ((.inr (.inr ⟨_, rfl, x, dx, fs, rfl, hx7, fl.no "is_one" (by decide) (by decide), _, rfl, x, pg, gs, rfl, SqL.of h7, (by omega), fun H8 s8 => ?_⟩)))
    have one : isCar gs = true := isCar_true rg.2.1 (by intro z; have := rg.lenO (by decide); rw [z] at this; cases this)
    rw [one]
    refine ⟨_, rfl, ?_⟩
    rw [decide_eq_true rfl]
    exact q _
end
noncomputable def spL (K : PySem.W.Frag) : Sp := fun vs H Q _ => ∃ (a : Addr) (ns : List Int), vs = [.ref a] ∧ SqL K H a (ns.map V.int) ∧ ns.length ≤ 63 ∧ ∀ H', Q (.bl true) H'
theorem lenAll1 {P : List Value → Prop} (h : ∀ a0 : Value, P [a0]) : ∀ us : List Value, us.length = 1 → P us
  | [a0], _ => h a0
theorem lenAll2 {P : List Value → Prop} (h : ∀ a0 a1 : Value, P [a0, a1]) : ∀ us : List Value, us.length = 2 → P us
  | [a0, a1], _ => h a0 a1
theorem lenAll3 {P : List Value → Prop} (h : ∀ a0 a1 a2 : Value, P [a0, a1, a2]) : ∀ us : List Value, us.length = 3 → P us
  | [a0, a1, a2], _ => h a0 a1 a2
theorem lenAll4 {P : List Value → Prop} (h : ∀ a0 a1 a2 a3 : Value, P [a0, a1, a2, a3]) : ∀ us : List Value, us.length = 4 → P us
  | [a0, a1, a2, a3], _ => h a0 a1 a2 a3
theorem all_mk {l : PySem.W.OpenLaw} {w : World} {K : PySem.W.Frag} {h : Heap} {mg : Str → Option Value} {fa : Addr} (X : K.In h) (G : h.Ns mainGlobals mg) (hfa : mg "law" = some (.ref fa)) {C_Codes : Addr} {C_Trees : Addr} {C_Cars : Addr} {C_Family : Addr} {C_RingFamily : Addr}
    {f1 : Addr} {od1 an1 : Option Addr} {sl1 : Array (Option Value)} {oc1 kV1 dc1 pm1 cd1 ct1 : Value}
    {f2 : Addr} {od2 an2 : Option Addr} {sl2 : Array (Option Value)} {oc2 kV2 dc2 pm2 cd2 ct2 : Value}
    {f3 : Addr} {od3 an3 : Option Addr} {sl3 : Array (Option Value)} {oc3 kV3 dc3 pm3 cd3 ct3 : Value}
    {f4 : Addr} {od4 an4 : Option Addr} {sl4 : Array (Option Value)} {oc4 kV4 dc4 pm4 cd4 ct4 : Value}
    {f5 : Addr} {od5 an5 : Option Addr} {sl5 : Array (Option Value)} {oc5 kV5 dc5 pm5 cd5 ct5 : Value}
    {f6 : Addr} {od6 an6 : Option Addr} {sl6 : Array (Option Value)} {oc6 kV6 dc6 pm6 cd6 ct6 : Value}
    {f7 : Addr} {od7 an7 : Option Addr} {sl7 : Array (Option Value)} {oc7 kV7 dc7 pm7 cd7 ct7 : Value}
    {f8 : Addr} {od8 an8 : Option Addr} {sl8 : Array (Option Value)} {oc8 kV8 dc8 pm8 cd8 ct8 : Value}
    {f9 : Addr} {od9 an9 : Option Addr} {sl9 : Array (Option Value)} {oc9 kV9 dc9 pm9 cd9 ct9 : Value}
    {f10 : Addr} {od10 an10 : Option Addr} {sl10 : Array (Option Value)} {oc10 kV10 dc10 pm10 cd10 ct10 : Value}
    {f11 : Addr} {od11 an11 : Option Addr} {sl11 : Array (Option Value)} {oc11 kV11 dc11 pm11 cd11 ct11 : Value}
    {f12 : Addr} {od12 an12 : Option Addr} {sl12 : Array (Option Value)} {oc12 kV12 dc12 pm12 cd12 ct12 : Value}
    {f13 : Addr} {od13 an13 : Option Addr} {sl13 : Array (Option Value)} {oc13 kV13 dc13 pm13 cd13 ct13 : Value}
    {f14 : Addr} {od14 an14 : Option Addr} {sl14 : Array (Option Value)} {oc14 kV14 dc14 pm14 cd14 ct14 : Value}
    {f15 : Addr} {od15 an15 : Option Addr} {sl15 : Array (Option Value)} {oc15 kV15 dc15 pm15 cd15 ct15 : Value}
    {f16 : Addr} {od16 an16 : Option Addr} {sl16 : Array (Option Value)} {oc16 kV16 dc16 pm16 cd16 ct16 : Value}
    {f17 : Addr} {od17 an17 : Option Addr} {sl17 : Array (Option Value)} {oc17 kV17 dc17 pm17 cd17 ct17 : Value}
    {f18 : Addr} {od18 an18 : Option Addr} {sl18 : Array (Option Value)} {oc18 kV18 dc18 pm18 cd18 ct18 : Value}
    {f19 : Addr} {od19 an19 : Option Addr} {sl19 : Array (Option Value)} {oc19 kV19 dc19 pm19 cd19 ct19 : Value}
    {f20 : Addr} {od20 an20 : Option Addr} {sl20 : Array (Option Value)} {oc20 kV20 dc20 pm20 cd20 ct20 : Value}
    {f21 : Addr} {od21 an21 : Option Addr} {sl21 : Array (Option Value)} {oc21 kV21 dc21 pm21 cd21 ct21 : Value}
    {f22 : Addr} {od22 an22 : Option Addr} {sl22 : Array (Option Value)} {oc22 kV22 dc22 pm22 cd22 ct22 : Value}
    {f23 : Addr} {od23 an23 : Option Addr} {sl23 : Array (Option Value)} {oc23 kV23 dc23 pm23 cd23 ct23 : Value}
    {f24 : Addr} {od24 an24 : Option Addr} {sl24 : Array (Option Value)} {oc24 kV24 dc24 pm24 cd24 ct24 : Value}
    {f25 : Addr} {od25 an25 : Option Addr} {sl25 : Array (Option Value)} {oc25 kV25 dc25 pm25 cd25 ct25 : Value}
    {f26 : Addr} {od26 an26 : Option Addr} {sl26 : Array (Option Value)} {oc26 kV26 dc26 pm26 cd26 ct26 : Value}
    {f27 : Addr} {od27 an27 : Option Addr} {sl27 : Array (Option Value)} {oc27 kV27 dc27 pm27 cd27 ct27 : Value}
    {f28 : Addr} {od28 an28 : Option Addr} {sl28 : Array (Option Value)} {oc28 kV28 dc28 pm28 cd28 ct28 : Value}
    {f29 : Addr} {od29 an29 : Option Addr} {sl29 : Array (Option Value)} {oc29 kV29 dc29 pm29 cd29 ct29 : Value}
    {f30 : Addr} {od30 an30 : Option Addr} {sl30 : Array (Option Value)} {oc30 kV30 dc30 pm30 cd30 ct30 : Value}
    {f31 : Addr} {od31 an31 : Option Addr} {sl31 : Array (Option Value)} {oc31 kV31 dc31 pm31 cd31 ct31 : Value}
    {f32 : Addr} {od32 an32 : Option Addr} {sl32 : Array (Option Value)} {oc32 kV32 dc32 pm32 cd32 ct32 : Value}
    {f33 : Addr} {od33 an33 : Option Addr} {sl33 : Array (Option Value)} {oc33 kV33 dc33 pm33 cd33 ct33 : Value}
    {f34 : Addr} {od34 an34 : Option Addr} {sl34 : Array (Option Value)} {oc34 kV34 dc34 pm34 cd34 ct34 : Value}
    {f35 : Addr} {od35 an35 : Option Addr} {sl35 : Array (Option Value)} {oc35 kV35 dc35 pm35 cd35 ct35 : Value}
    {f36 : Addr} {od36 an36 : Option Addr} {sl36 : Array (Option Value)} {oc36 kV36 dc36 pm36 cd36 ct36 : Value}
    {f37 : Addr} {od37 an37 : Option Addr} {sl37 : Array (Option Value)} {oc37 kV37 dc37 pm37 cd37 ct37 : Value}
    {f38 : Addr} {od38 an38 : Option Addr} {sl38 : Array (Option Value)} {oc38 kV38 dc38 pm38 cd38 ct38 : Value}
    {f39 : Addr} {od39 an39 : Option Addr} {sl39 : Array (Option Value)} {oc39 kV39 dc39 pm39 cd39 ct39 : Value}
    {f40 : Addr} {od40 an40 : Option Addr} {sl40 : Array (Option Value)} {oc40 kV40 dc40 pm40 cd40 ct40 : Value}
    {f41 : Addr} {od41 an41 : Option Addr} {sl41 : Array (Option Value)} {oc41 kV41 dc41 pm41 cd41 ct41 : Value}
    {f42 : Addr} {od42 an42 : Option Addr} {sl42 : Array (Option Value)} {oc42 kV42 dc42 pm42 cd42 ct42 : Value}
    {f43 : Addr} {od43 an43 : Option Addr} {sl43 : Array (Option Value)} {oc43 kV43 dc43 pm43 cd43 ct43 : Value}
    {f44 : Addr} {od44 an44 : Option Addr} {sl44 : Array (Option Value)} {oc44 kV44 dc44 pm44 cd44 ct44 : Value}
    {f45 : Addr} {od45 an45 : Option Addr} {sl45 : Array (Option Value)} {oc45 kV45 dc45 pm45 cd45 ct45 : Value}
    {f46 : Addr} {od46 an46 : Option Addr} {sl46 : Array (Option Value)} {oc46 kV46 dc46 pm46 cd46 ct46 : Value}
    {f47 : Addr} {od47 an47 : Option Addr} {sl47 : Array (Option Value)} {oc47 kV47 dc47 pm47 cd47 ct47 : Value}
    {f48 : Addr} {od48 an48 : Option Addr} {sl48 : Array (Option Value)} {oc48 kV48 dc48 pm48 cd48 ct48 : Value}
    {f49 : Addr} {od49 an49 : Option Addr} {sl49 : Array (Option Value)} {oc49 kV49 dc49 pm49 cd49 ct49 : Value}
    {f50 : Addr} {od50 an50 : Option Addr} {sl50 : Array (Option Value)} {oc50 kV50 dc50 pm50 cd50 ct50 : Value}
    {f51 : Addr} {od51 an51 : Option Addr} {sl51 : Array (Option Value)} {oc51 kV51 dc51 pm51 cd51 ct51 : Value}
    {f52 : Addr} {od52 an52 : Option Addr} {sl52 : Array (Option Value)} {oc52 kV52 dc52 pm52 cd52 ct52 : Value}
    {f53 : Addr} {od53 an53 : Option Addr} {sl53 : Array (Option Value)} {oc53 kV53 dc53 pm53 cd53 ct53 : Value}
    {f54 : Addr} {od54 an54 : Option Addr} {sl54 : Array (Option Value)} {oc54 kV54 dc54 pm54 cd54 ct54 : Value}
    {f55 : Addr} {od55 an55 : Option Addr} {sl55 : Array (Option Value)} {oc55 kV55 dc55 pm55 cd55 ct55 : Value}
    {f56 : Addr} {od56 an56 : Option Addr} {sl56 : Array (Option Value)} {oc56 kV56 dc56 pm56 cd56 ct56 : Value}
    {f57 : Addr} {od57 an57 : Option Addr} {sl57 : Array (Option Value)} {oc57 kV57 dc57 pm57 cd57 ct57 : Value}
    {f58 : Addr} {od58 an58 : Option Addr} {sl58 : Array (Option Value)} {oc58 kV58 dc58 pm58 cd58 ct58 : Value}
    (nc_Family : PySem.W.nsIn K mainGlobals "Family" = some (some (.ref C_Family)))
    (nc_Codes : PySem.W.nsIn K mainGlobals "Codes" = some (some (.ref C_Codes)))
    (nc_Trees : PySem.W.nsIn K mainGlobals "Trees" = some (some (.ref C_Trees)))
    (nc_Cars : PySem.W.nsIn K mainGlobals "Cars" = some (some (.ref C_Cars)))
    (nc_RingFamily : PySem.W.nsIn K mainGlobals "RingFamily" = some (some (.ref C_RingFamily)))
    (a_Codes_thing_of : PySem.W.findIn K (.ref C_Codes) "thing_of" = some (some (.ref f53)))
    (a_Trees_thing_of : PySem.W.findIn K (.ref C_Trees) "thing_of" = some (some (.ref f50)))
    (a_Cars_thing_of : PySem.W.findIn K (.ref C_Cars) "thing_of" = some (some (.ref f47)))
    (a_Codes_size_of : PySem.W.findIn K (.ref C_Codes) "size_of" = some (some (.ref f55)))
    (a_Trees_size_of : PySem.W.findIn K (.ref C_Trees) "size_of" = some (some (.ref f56)))
    (a_Cars_size_of : PySem.W.findIn K (.ref C_Cars) "size_of" = some (some (.ref f57)))
    (a_Codes_is_one : PySem.W.findIn K (.ref C_Codes) "is_one" = some (some (.ref f13)))
    (a_Trees_is_one : PySem.W.findIn K (.ref C_Trees) "is_one" = some (some (.ref f17)))
    (a_Cars_is_one : PySem.W.findIn K (.ref C_Cars) "is_one" = some (some (.ref f20)))
    (a_Codes_number_of : PySem.W.findIn K (.ref C_Codes) "number_of" = some (some (.ref f15)))
    (a_Trees_number_of : PySem.W.findIn K (.ref C_Trees) "number_of" = some (some (.ref f19)))
    (a_Cars_number_of : PySem.W.findIn K (.ref C_Cars) "number_of" = some (some (.ref f22)))
    (a_Codes_next_of : PySem.W.findIn K (.ref C_Codes) "next_of" = some (some (.ref f23)))
    (a_Trees_next_of : PySem.W.findIn K (.ref C_Trees) "next_of" = some (some (.ref f24)))
    (a_Cars_next_of : PySem.W.findIn K (.ref C_Cars) "next_of" = some (some (.ref f25)))
    (a_Codes_refuse_other : PySem.W.findIn K (.ref C_Codes) "refuse_other" = some (some (.ref f14)))
    (a_Trees_refuse_other : PySem.W.findIn K (.ref C_Trees) "refuse_other" = some (some (.ref f18)))
    (a_Cars_refuse_other : PySem.W.findIn K (.ref C_Cars) "refuse_other" = some (some (.ref f21)))
    (a_Cars_many : PySem.W.findIn K (.ref C_Cars) "many" = some (some (.ref f38)))
    (a_Trees_many : PySem.W.findIn K (.ref C_Trees) "many" = some (some (.ref f40)))
    (a_Codes_many : PySem.W.findIn K (.ref C_Codes) "many" = some (some (.ref f42)))
    (a_Cars_unchecked_many : PySem.W.findIn K (.ref C_Cars) "unchecked_many" = some (some (.ref f37)))
    (a_Trees_unchecked_many : PySem.W.findIn K (.ref C_Trees) "unchecked_many" = some (some (.ref f39)))
    (a_Codes_unchecked_many : PySem.W.findIn K (.ref C_Codes) "unchecked_many" = some (some (.ref f41)))
    (a_Cars_unchecked_thing : PySem.W.findIn K (.ref C_Cars) "unchecked_thing" = some (some (.ref f46)))
    (a_Cars_of_code : PySem.W.findIn K (.ref C_Cars) "of_code" = some (some (.ref f44)))
    (a_Trees_unchecked_thing : PySem.W.findIn K (.ref C_Trees) "unchecked_thing" = some (some (.ref f49)))
    (a_Trees_of_code : PySem.W.findIn K (.ref C_Trees) "of_code" = some (some (.ref f48)))
    (a_Codes_unchecked_thing : PySem.W.findIn K (.ref C_Codes) "unchecked_thing" = some (some (.ref f52)))
    (a_Codes_of_code : PySem.W.findIn K (.ref C_Codes) "of_code" = some (some (.ref f51)))
    (ai_Codes : PySem.W.findIn K (.ref C_Codes) "__init__" = some (some (.ref f5)))
    (ai_Trees : PySem.W.findIn K (.ref C_Trees) "__init__" = some (some (.ref f8)))
    (ai_Cars : PySem.W.findIn K (.ref C_Cars) "__init__" = some (some (.ref f11)))
    (ch_RingFamily___init___Codes : PySem.W.findCls K (.ref C_RingFamily) (.type "type") "__init__" = some (.val (.ref f4)))
    (cg_RingFamily___init___Codes : PySem.W.specialIn K (.ref C_RingFamily) "__getattribute__" = some (some (.builtin "type.__getattribute__")))
    (cr_RingFamily___init___Codes : PySem.W.readsIn K C_RingFamily (.type "type") = true)
    (ch_Family___init___Codes : PySem.W.findCls K (.ref C_Family) (.type "type") "__init__" = some (.val (.ref f3)))
    (cg_Family___init___Codes : PySem.W.specialIn K (.ref C_Family) "__getattribute__" = some (some (.builtin "type.__getattribute__")))
    (cr_Family___init___Codes : PySem.W.readsIn K C_Family (.type "type") = true)
    (ch_RingFamily___init___Trees : PySem.W.findCls K (.ref C_RingFamily) (.type "type") "__init__" = some (.val (.ref f7)))
    (cg_RingFamily___init___Trees : PySem.W.specialIn K (.ref C_RingFamily) "__getattribute__" = some (some (.builtin "type.__getattribute__")))
    (cr_RingFamily___init___Trees : PySem.W.readsIn K C_RingFamily (.type "type") = true)
    (ch_Family___init___Trees : PySem.W.findCls K (.ref C_Family) (.type "type") "__init__" = some (.val (.ref f6)))
    (cg_Family___init___Trees : PySem.W.specialIn K (.ref C_Family) "__getattribute__" = some (some (.builtin "type.__getattribute__")))
    (cr_Family___init___Trees : PySem.W.readsIn K C_Family (.type "type") = true)
    (ch_RingFamily___init___Cars : PySem.W.findCls K (.ref C_RingFamily) (.type "type") "__init__" = some (.val (.ref f10)))
    (cg_RingFamily___init___Cars : PySem.W.specialIn K (.ref C_RingFamily) "__getattribute__" = some (some (.builtin "type.__getattribute__")))
    (cr_RingFamily___init___Cars : PySem.W.readsIn K C_RingFamily (.type "type") = true)
    (ch_Family___init___Cars : PySem.W.findCls K (.ref C_Family) (.type "type") "__init__" = some (.val (.ref f9)))
    (cg_Family___init___Cars : PySem.W.specialIn K (.ref C_Family) "__getattribute__" = some (some (.builtin "type.__getattribute__")))
    (cr_Family___init___Cars : PySem.W.readsIn K C_Family (.type "type") = true)
    (a1 : PySem.W.nsIn K mainGlobals "_law_cell_at" = some (some (.ref f1)))
    (l1 : K.lookup f1 = some ⟨oc1, od1, .func (PySem.W.fnOf "_law_cell_at" "_law_cell_at" (defArgs s__law_cell_at) (defBody s__law_cell_at) (defScope s__law_cell_at) .none kV1 dc1 pm1 an1 cd1 ct1), sl1⟩)
    (c1 : PySem.W.codeIn K cd1 "_law_cell_at" = true)
    (k1 : PySem.W.keepIn K (.ref f1) = true)
    (a2 : PySem.W.nsIn K mainGlobals "_law_amiss" = some (some (.ref f2)))
    (l2 : K.lookup f2 = some ⟨oc2, od2, .func (PySem.W.fnOf "_law_amiss" "_law_amiss" (defArgs s__law_amiss) (defBody s__law_amiss) (defScope s__law_amiss) .none kV2 dc2 pm2 an2 cd2 ct2), sl2⟩)
    (c2 : PySem.W.codeIn K cd2 "_law_amiss" = true)
    (k2 : PySem.W.keepIn K (.ref f2) = true)
    (l3 : K.lookup f3 = some ⟨oc3, od3, .func (PySem.W.fnOf "__init__" "Family.__init__" (defArgs s_Codes__Family___init__) (defBody s_Codes__Family___init__) (defScope s_Codes__Family___init__) .none kV3 dc3 pm3 an3 cd3 ct3), sl3⟩)
    (c3 : PySem.W.codeIn K cd3 "Family.__init__" = true)
    (k3 : PySem.W.keepIn K (.ref f3) = true)
    (i3 : PySem.W.isFn K (.ref f3) = true)
    (l4 : K.lookup f4 = some ⟨oc4, od4, .func (PySem.W.fnOf "__init__" "RingFamily.__init__" (defArgs s_Codes__RingFamily___init__) (defBody s_Codes__RingFamily___init__) (defScope s_Codes__RingFamily___init__) .none kV4 dc4 pm4 an4 cd4 ct4), sl4⟩)
    (c4 : PySem.W.codeIn K cd4 "RingFamily.__init__" = true)
    (k4 : PySem.W.keepIn K (.ref f4) = true)
    (i4 : PySem.W.isFn K (.ref f4) = true)
    (l5 : K.lookup f5 = some ⟨oc5, od5, .func (PySem.W.fnOf "__init__" "Codes.__init__" (defArgs s_Codes____init__) (defBody s_Codes____init__) (defScope s_Codes____init__) .none kV5 dc5 pm5 an5 cd5 ct5), sl5⟩)
    (c5 : PySem.W.codeIn K cd5 "Codes.__init__" = true)
    (k5 : PySem.W.keepIn K (.ref f5) = true)
    (i5 : PySem.W.isFn K (.ref f5) = true)
    (l6 : K.lookup f6 = some ⟨oc6, od6, .func (PySem.W.fnOf "__init__" "Family.__init__" (defArgs s_Trees__Family___init__) (defBody s_Trees__Family___init__) (defScope s_Trees__Family___init__) .none kV6 dc6 pm6 an6 cd6 ct6), sl6⟩)
    (c6 : PySem.W.codeIn K cd6 "Family.__init__" = true)
    (k6 : PySem.W.keepIn K (.ref f6) = true)
    (i6 : PySem.W.isFn K (.ref f6) = true)
    (l7 : K.lookup f7 = some ⟨oc7, od7, .func (PySem.W.fnOf "__init__" "RingFamily.__init__" (defArgs s_Trees__RingFamily___init__) (defBody s_Trees__RingFamily___init__) (defScope s_Trees__RingFamily___init__) .none kV7 dc7 pm7 an7 cd7 ct7), sl7⟩)
    (c7 : PySem.W.codeIn K cd7 "RingFamily.__init__" = true)
    (k7 : PySem.W.keepIn K (.ref f7) = true)
    (i7 : PySem.W.isFn K (.ref f7) = true)
    (l8 : K.lookup f8 = some ⟨oc8, od8, .func (PySem.W.fnOf "__init__" "Trees.__init__" (defArgs s_Trees____init__) (defBody s_Trees____init__) (defScope s_Trees____init__) .none kV8 dc8 pm8 an8 cd8 ct8), sl8⟩)
    (c8 : PySem.W.codeIn K cd8 "Trees.__init__" = true)
    (k8 : PySem.W.keepIn K (.ref f8) = true)
    (i8 : PySem.W.isFn K (.ref f8) = true)
    (l9 : K.lookup f9 = some ⟨oc9, od9, .func (PySem.W.fnOf "__init__" "Family.__init__" (defArgs s_Cars__Family___init__) (defBody s_Cars__Family___init__) (defScope s_Cars__Family___init__) .none kV9 dc9 pm9 an9 cd9 ct9), sl9⟩)
    (c9 : PySem.W.codeIn K cd9 "Family.__init__" = true)
    (k9 : PySem.W.keepIn K (.ref f9) = true)
    (i9 : PySem.W.isFn K (.ref f9) = true)
    (l10 : K.lookup f10 = some ⟨oc10, od10, .func (PySem.W.fnOf "__init__" "RingFamily.__init__" (defArgs s_Cars__RingFamily___init__) (defBody s_Cars__RingFamily___init__) (defScope s_Cars__RingFamily___init__) .none kV10 dc10 pm10 an10 cd10 ct10), sl10⟩)
    (c10 : PySem.W.codeIn K cd10 "RingFamily.__init__" = true)
    (k10 : PySem.W.keepIn K (.ref f10) = true)
    (i10 : PySem.W.isFn K (.ref f10) = true)
    (l11 : K.lookup f11 = some ⟨oc11, od11, .func (PySem.W.fnOf "__init__" "Cars.__init__" (defArgs s_Cars____init__) (defBody s_Cars____init__) (defScope s_Cars____init__) .none kV11 dc11 pm11 an11 cd11 ct11), sl11⟩)
    (c11 : PySem.W.codeIn K cd11 "Cars.__init__" = true)
    (k11 : PySem.W.keepIn K (.ref f11) = true)
    (i11 : PySem.W.isFn K (.ref f11) = true)
    (a12 : PySem.W.nsIn K mainGlobals "_law_kin" = some (some (.ref f12)))
    (l12 : K.lookup f12 = some ⟨oc12, od12, .func (PySem.W.fnOf "_law_kin" "_law_kin" (defArgs s__law_kin) (defBody s__law_kin) (defScope s__law_kin) .none kV12 dc12 pm12 an12 cd12 ct12), sl12⟩)
    (c12 : PySem.W.codeIn K cd12 "_law_kin" = true)
    (k12 : PySem.W.keepIn K (.ref f12) = true)
    (l13 : K.lookup f13 = some ⟨oc13, od13, .func (PySem.W.fnOf "is_one" "Codes.is_one" (defArgs s_Codes__is_one) (defBody s_Codes__is_one) (defScope s_Codes__is_one) .none kV13 dc13 pm13 an13 cd13 ct13), sl13⟩)
    (c13 : PySem.W.codeIn K cd13 "Codes.is_one" = true)
    (k13 : PySem.W.keepIn K (.ref f13) = true)
    (i13 : PySem.W.isFn K (.ref f13) = true)
    (l14 : K.lookup f14 = some ⟨oc14, od14, .func (PySem.W.fnOf "refuse_other" "Family.refuse_other" (defArgs s_Codes__Family_refuse_other) (defBody s_Codes__Family_refuse_other) (defScope s_Codes__Family_refuse_other) .none kV14 dc14 pm14 an14 cd14 ct14), sl14⟩)
    (c14 : PySem.W.codeIn K cd14 "Family.refuse_other" = true)
    (k14 : PySem.W.keepIn K (.ref f14) = true)
    (i14 : PySem.W.isFn K (.ref f14) = true)
    (l15 : K.lookup f15 = some ⟨oc15, od15, .func (PySem.W.fnOf "number_of" "Family.number_of" (defArgs s_Codes__Family_number_of) (defBody s_Codes__Family_number_of) (defScope s_Codes__Family_number_of) .none kV15 dc15 pm15 an15 cd15 ct15), sl15⟩)
    (c15 : PySem.W.codeIn K cd15 "Family.number_of" = true)
    (k15 : PySem.W.keepIn K (.ref f15) = true)
    (i15 : PySem.W.isFn K (.ref f15) = true)
    (a16 : PySem.W.nsIn K mainGlobals "comes_to_0" = some (some (.ref f16)))
    (l16 : K.lookup f16 = some ⟨oc16, od16, .func (PySem.W.fnOf "comes_to_0" "comes_to_0" (defArgs s_comes_to_0) (defBody s_comes_to_0) (defScope s_comes_to_0) .none kV16 dc16 pm16 an16 cd16 ct16), sl16⟩)
    (c16 : PySem.W.codeIn K cd16 "comes_to_0" = true)
    (k16 : PySem.W.keepIn K (.ref f16) = true)
    (l17 : K.lookup f17 = some ⟨oc17, od17, .func (PySem.W.fnOf "is_one" "Trees.is_one" (defArgs s_Trees__is_one) (defBody s_Trees__is_one) (defScope s_Trees__is_one) .none kV17 dc17 pm17 an17 cd17 ct17), sl17⟩)
    (c17 : PySem.W.codeIn K cd17 "Trees.is_one" = true)
    (k17 : PySem.W.keepIn K (.ref f17) = true)
    (i17 : PySem.W.isFn K (.ref f17) = true)
    (l18 : K.lookup f18 = some ⟨oc18, od18, .func (PySem.W.fnOf "refuse_other" "Family.refuse_other" (defArgs s_Trees__Family_refuse_other) (defBody s_Trees__Family_refuse_other) (defScope s_Trees__Family_refuse_other) .none kV18 dc18 pm18 an18 cd18 ct18), sl18⟩)
    (c18 : PySem.W.codeIn K cd18 "Family.refuse_other" = true)
    (k18 : PySem.W.keepIn K (.ref f18) = true)
    (i18 : PySem.W.isFn K (.ref f18) = true)
    (l19 : K.lookup f19 = some ⟨oc19, od19, .func (PySem.W.fnOf "number_of" "Family.number_of" (defArgs s_Trees__Family_number_of) (defBody s_Trees__Family_number_of) (defScope s_Trees__Family_number_of) .none kV19 dc19 pm19 an19 cd19 ct19), sl19⟩)
    (c19 : PySem.W.codeIn K cd19 "Family.number_of" = true)
    (k19 : PySem.W.keepIn K (.ref f19) = true)
    (i19 : PySem.W.isFn K (.ref f19) = true)
    (l20 : K.lookup f20 = some ⟨oc20, od20, .func (PySem.W.fnOf "is_one" "Cars.is_one" (defArgs s_Cars__is_one) (defBody s_Cars__is_one) (defScope s_Cars__is_one) .none kV20 dc20 pm20 an20 cd20 ct20), sl20⟩)
    (c20 : PySem.W.codeIn K cd20 "Cars.is_one" = true)
    (k20 : PySem.W.keepIn K (.ref f20) = true)
    (i20 : PySem.W.isFn K (.ref f20) = true)
    (l21 : K.lookup f21 = some ⟨oc21, od21, .func (PySem.W.fnOf "refuse_other" "Family.refuse_other" (defArgs s_Cars__Family_refuse_other) (defBody s_Cars__Family_refuse_other) (defScope s_Cars__Family_refuse_other) .none kV21 dc21 pm21 an21 cd21 ct21), sl21⟩)
    (c21 : PySem.W.codeIn K cd21 "Family.refuse_other" = true)
    (k21 : PySem.W.keepIn K (.ref f21) = true)
    (i21 : PySem.W.isFn K (.ref f21) = true)
    (l22 : K.lookup f22 = some ⟨oc22, od22, .func (PySem.W.fnOf "number_of" "Family.number_of" (defArgs s_Cars__Family_number_of) (defBody s_Cars__Family_number_of) (defScope s_Cars__Family_number_of) .none kV22 dc22 pm22 an22 cd22 ct22), sl22⟩)
    (c22 : PySem.W.codeIn K cd22 "Family.number_of" = true)
    (k22 : PySem.W.keepIn K (.ref f22) = true)
    (i22 : PySem.W.isFn K (.ref f22) = true)
    (l23 : K.lookup f23 = some ⟨oc23, od23, .func (PySem.W.fnOf "next_of" "Family.next_of" (defArgs s_Codes__Family_next_of) (defBody s_Codes__Family_next_of) (defScope s_Codes__Family_next_of) .none kV23 dc23 pm23 an23 cd23 ct23), sl23⟩)
    (c23 : PySem.W.codeIn K cd23 "Family.next_of" = true)
    (k23 : PySem.W.keepIn K (.ref f23) = true)
    (i23 : PySem.W.isFn K (.ref f23) = true)
    (l24 : K.lookup f24 = some ⟨oc24, od24, .func (PySem.W.fnOf "next_of" "Family.next_of" (defArgs s_Trees__Family_next_of) (defBody s_Trees__Family_next_of) (defScope s_Trees__Family_next_of) .none kV24 dc24 pm24 an24 cd24 ct24), sl24⟩)
    (c24 : PySem.W.codeIn K cd24 "Family.next_of" = true)
    (k24 : PySem.W.keepIn K (.ref f24) = true)
    (i24 : PySem.W.isFn K (.ref f24) = true)
    (l25 : K.lookup f25 = some ⟨oc25, od25, .func (PySem.W.fnOf "next_of" "Family.next_of" (defArgs s_Cars__Family_next_of) (defBody s_Cars__Family_next_of) (defScope s_Cars__Family_next_of) .none kV25 dc25 pm25 an25 cd25 ct25), sl25⟩)
    (c25 : PySem.W.codeIn K cd25 "Family.next_of" = true)
    (k25 : PySem.W.keepIn K (.ref f25) = true)
    (i25 : PySem.W.isFn K (.ref f25) = true)
    (a26 : PySem.W.nsIn K mainGlobals "code_to_tree" = some (some (.ref f26)))
    (l26 : K.lookup f26 = some ⟨oc26, od26, .func (PySem.W.fnOf "code_to_tree" "code_to_tree" (defArgs s_code_to_tree) (defBody s_code_to_tree) (defScope s_code_to_tree) .none kV26 dc26 pm26 an26 cd26 ct26), sl26⟩)
    (c26 : PySem.W.codeIn K cd26 "code_to_tree" = true)
    (k26 : PySem.W.keepIn K (.ref f26) = true)
    (a27 : PySem.W.nsIn K mainGlobals "code_to_cars" = some (some (.ref f27)))
    (l27 : K.lookup f27 = some ⟨oc27, od27, .func (PySem.W.fnOf "code_to_cars" "code_to_cars" (defArgs s_code_to_cars) (defBody s_code_to_cars) (defScope s_code_to_cars) .none kV27 dc27 pm27 an27 cd27 ct27), sl27⟩)
    (c27 : PySem.W.codeIn K cd27 "code_to_cars" = true)
    (k27 : PySem.W.keepIn K (.ref f27) = true)
    (a28 : PySem.W.nsIn K mainGlobals "tree_to_code" = some (some (.ref f28)))
    (l28 : K.lookup f28 = some ⟨oc28, od28, .func (PySem.W.fnOf "tree_to_code" "tree_to_code" (defArgs s_tree_to_code) (defBody s_tree_to_code) (defScope s_tree_to_code) .none kV28 dc28 pm28 an28 cd28 ct28), sl28⟩)
    (c28 : PySem.W.codeIn K cd28 "tree_to_code" = true)
    (k28 : PySem.W.keepIn K (.ref f28) = true)
    (a29 : PySem.W.nsIn K mainGlobals "tree_to_cars" = some (some (.ref f29)))
    (l29 : K.lookup f29 = some ⟨oc29, od29, .func (PySem.W.fnOf "tree_to_cars" "tree_to_cars" (defArgs s_tree_to_cars) (defBody s_tree_to_cars) (defScope s_tree_to_cars) .none kV29 dc29 pm29 an29 cd29 ct29), sl29⟩)
    (c29 : PySem.W.codeIn K cd29 "tree_to_cars" = true)
    (k29 : PySem.W.keepIn K (.ref f29) = true)
    (a30 : PySem.W.nsIn K mainGlobals "cars_to_code" = some (some (.ref f30)))
    (l30 : K.lookup f30 = some ⟨oc30, od30, .func (PySem.W.fnOf "cars_to_code" "cars_to_code" (defArgs s_cars_to_code) (defBody s_cars_to_code) (defScope s_cars_to_code) .none kV30 dc30 pm30 an30 cd30 ct30), sl30⟩)
    (c30 : PySem.W.codeIn K cd30 "cars_to_code" = true)
    (k30 : PySem.W.keepIn K (.ref f30) = true)
    (a31 : PySem.W.nsIn K mainGlobals "cars_to_tree" = some (some (.ref f31)))
    (l31 : K.lookup f31 = some ⟨oc31, od31, .func (PySem.W.fnOf "cars_to_tree" "cars_to_tree" (defArgs s_cars_to_tree) (defBody s_cars_to_tree) (defScope s_cars_to_tree) .none kV31 dc31 pm31 an31 cd31 ct31), sl31⟩)
    (c31 : PySem.W.codeIn K cd31 "cars_to_tree" = true)
    (k31 : PySem.W.keepIn K (.ref f31) = true)
    (a32 : PySem.W.nsIn K mainGlobals "parked" = some (some (.ref f32)))
    (l32 : K.lookup f32 = some ⟨oc32, od32, .func (PySem.W.fnOf "parked" "parked" (defArgs s_parked) (defBody s_parked) (defScope s_parked) .none kV32 dc32 pm32 an32 cd32 ct32), sl32⟩)
    (c32 : PySem.W.codeIn K cd32 "parked" = true)
    (k32 : PySem.W.keepIn K (.ref f32) = true)
    (a33 : PySem.W.nsIn K mainGlobals "_law_asked" = some (some (.ref f33)))
    (l33 : K.lookup f33 = some ⟨oc33, od33, .func (PySem.W.fnOf "_law_asked" "_law_asked" (defArgs s__law_asked) (defBody s__law_asked) (defScope s__law_asked) .none kV33 dc33 pm33 an33 cd33 ct33), sl33⟩)
    (c33 : PySem.W.codeIn K cd33 "_law_asked" = true)
    (k33 : PySem.W.keepIn K (.ref f33) = true)
    (a34 : PySem.W.nsIn K mainGlobals "_law_classes" = some (some (.ref f34)))
    (l34 : K.lookup f34 = some ⟨oc34, od34, .func (PySem.W.fnOf "_law_classes" "_law_classes" (defArgs s__law_classes) (defBody s__law_classes) (defScope s__law_classes) .none kV34 dc34 pm34 an34 cd34 ct34), sl34⟩)
    (c34 : PySem.W.codeIn K cd34 "_law_classes" = true)
    (k34 : PySem.W.keepIn K (.ref f34) = true)
    (a35 : PySem.W.nsIn K mainGlobals "_law_refused" = some (some (.ref f35)))
    (l35 : K.lookup f35 = some ⟨oc35, od35, .func (PySem.W.fnOf "_law_refused" "_law_refused" (defArgs s__law_refused) (defBody s__law_refused) (defScope s__law_refused) .none kV35 dc35 pm35 an35 cd35 ct35), sl35⟩)
    (c35 : PySem.W.codeIn K cd35 "_law_refused" = true)
    (k35 : PySem.W.keepIn K (.ref f35) = true)
    (a36 : PySem.W.nsIn K mainGlobals "ring_many" = some (some (.ref f36)))
    (l36 : K.lookup f36 = some ⟨oc36, od36, .func (PySem.W.fnOf "ring_many" "ring_many" (defArgs s_ring_many) (defBody s_ring_many) (defScope s_ring_many) .none kV36 dc36 pm36 an36 cd36 ct36), sl36⟩)
    (c36 : PySem.W.codeIn K cd36 "ring_many" = true)
    (k36 : PySem.W.keepIn K (.ref f36) = true)
    (l37 : K.lookup f37 = some ⟨oc37, od37, .func (PySem.W.fnOf "unchecked_many" "RingFamily.unchecked_many" (defArgs s_Cars__RingFamily_unchecked_many) (defBody s_Cars__RingFamily_unchecked_many) (defScope s_Cars__RingFamily_unchecked_many) .none kV37 dc37 pm37 an37 cd37 ct37), sl37⟩)
    (c37 : PySem.W.codeIn K cd37 "RingFamily.unchecked_many" = true)
    (k37 : PySem.W.keepIn K (.ref f37) = true)
    (i37 : PySem.W.isFn K (.ref f37) = true)
    (l38 : K.lookup f38 = some ⟨oc38, od38, .func (PySem.W.fnOf "many" "Family.many" (defArgs s_Cars__Family_many) (defBody s_Cars__Family_many) (defScope s_Cars__Family_many) .none kV38 dc38 pm38 an38 cd38 ct38), sl38⟩)
    (c38 : PySem.W.codeIn K cd38 "Family.many" = true)
    (k38 : PySem.W.keepIn K (.ref f38) = true)
    (i38 : PySem.W.isFn K (.ref f38) = true)
    (l39 : K.lookup f39 = some ⟨oc39, od39, .func (PySem.W.fnOf "unchecked_many" "RingFamily.unchecked_many" (defArgs s_Trees__RingFamily_unchecked_many) (defBody s_Trees__RingFamily_unchecked_many) (defScope s_Trees__RingFamily_unchecked_many) .none kV39 dc39 pm39 an39 cd39 ct39), sl39⟩)
    (c39 : PySem.W.codeIn K cd39 "RingFamily.unchecked_many" = true)
    (k39 : PySem.W.keepIn K (.ref f39) = true)
    (i39 : PySem.W.isFn K (.ref f39) = true)
    (l40 : K.lookup f40 = some ⟨oc40, od40, .func (PySem.W.fnOf "many" "Family.many" (defArgs s_Trees__Family_many) (defBody s_Trees__Family_many) (defScope s_Trees__Family_many) .none kV40 dc40 pm40 an40 cd40 ct40), sl40⟩)
    (c40 : PySem.W.codeIn K cd40 "Family.many" = true)
    (k40 : PySem.W.keepIn K (.ref f40) = true)
    (i40 : PySem.W.isFn K (.ref f40) = true)
    (l41 : K.lookup f41 = some ⟨oc41, od41, .func (PySem.W.fnOf "unchecked_many" "RingFamily.unchecked_many" (defArgs s_Codes__RingFamily_unchecked_many) (defBody s_Codes__RingFamily_unchecked_many) (defScope s_Codes__RingFamily_unchecked_many) .none kV41 dc41 pm41 an41 cd41 ct41), sl41⟩)
    (c41 : PySem.W.codeIn K cd41 "RingFamily.unchecked_many" = true)
    (k41 : PySem.W.keepIn K (.ref f41) = true)
    (i41 : PySem.W.isFn K (.ref f41) = true)
    (l42 : K.lookup f42 = some ⟨oc42, od42, .func (PySem.W.fnOf "many" "Family.many" (defArgs s_Codes__Family_many) (defBody s_Codes__Family_many) (defScope s_Codes__Family_many) .none kV42 dc42 pm42 an42 cd42 ct42), sl42⟩)
    (c42 : PySem.W.codeIn K cd42 "Family.many" = true)
    (k42 : PySem.W.keepIn K (.ref f42) = true)
    (i42 : PySem.W.isFn K (.ref f42) = true)
    (a43 : PySem.W.nsIn K mainGlobals "_law_size_refused" = some (some (.ref f43)))
    (l43 : K.lookup f43 = some ⟨oc43, od43, .func (PySem.W.fnOf "_law_size_refused" "_law_size_refused" (defArgs s__law_size_refused) (defBody s__law_size_refused) (defScope s__law_size_refused) .none kV43 dc43 pm43 an43 cd43 ct43), sl43⟩)
    (c43 : PySem.W.codeIn K cd43 "_law_size_refused" = true)
    (k43 : PySem.W.keepIn K (.ref f43) = true)
    (l44 : K.lookup f44 = some ⟨oc44, od44, .func (PySem.W.fnOf "of_code" "Cars.of_code" (defArgs s_Cars__of_code) (defBody s_Cars__of_code) (defScope s_Cars__of_code) .none kV44 dc44 pm44 an44 cd44 ct44), sl44⟩)
    (c44 : PySem.W.codeIn K cd44 "Cars.of_code" = true)
    (k44 : PySem.W.keepIn K (.ref f44) = true)
    (i44 : PySem.W.isFn K (.ref f44) = true)
    (a45 : PySem.W.nsIn K mainGlobals "number_figures" = some (some (.ref f45)))
    (l45 : K.lookup f45 = some ⟨oc45, od45, .func (PySem.W.fnOf "number_figures" "number_figures" (defArgs s_number_figures) (defBody s_number_figures) (defScope s_number_figures) .none kV45 dc45 pm45 an45 cd45 ct45), sl45⟩)
    (c45 : PySem.W.codeIn K cd45 "number_figures" = true)
    (k45 : PySem.W.keepIn K (.ref f45) = true)
    (l46 : K.lookup f46 = some ⟨oc46, od46, .func (PySem.W.fnOf "unchecked_thing" "RingFamily.unchecked_thing" (defArgs s_Cars__RingFamily_unchecked_thing) (defBody s_Cars__RingFamily_unchecked_thing) (defScope s_Cars__RingFamily_unchecked_thing) .none kV46 dc46 pm46 an46 cd46 ct46), sl46⟩)
    (c46 : PySem.W.codeIn K cd46 "RingFamily.unchecked_thing" = true)
    (k46 : PySem.W.keepIn K (.ref f46) = true)
    (i46 : PySem.W.isFn K (.ref f46) = true)
    (l47 : K.lookup f47 = some ⟨oc47, od47, .func (PySem.W.fnOf "thing_of" "Family.thing_of" (defArgs s_Cars__Family_thing_of) (defBody s_Cars__Family_thing_of) (defScope s_Cars__Family_thing_of) .none kV47 dc47 pm47 an47 cd47 ct47), sl47⟩)
    (c47 : PySem.W.codeIn K cd47 "Family.thing_of" = true)
    (k47 : PySem.W.keepIn K (.ref f47) = true)
    (i47 : PySem.W.isFn K (.ref f47) = true)
    (l48 : K.lookup f48 = some ⟨oc48, od48, .func (PySem.W.fnOf "of_code" "Trees.of_code" (defArgs s_Trees__of_code) (defBody s_Trees__of_code) (defScope s_Trees__of_code) .none kV48 dc48 pm48 an48 cd48 ct48), sl48⟩)
    (c48 : PySem.W.codeIn K cd48 "Trees.of_code" = true)
    (k48 : PySem.W.keepIn K (.ref f48) = true)
    (i48 : PySem.W.isFn K (.ref f48) = true)
    (l49 : K.lookup f49 = some ⟨oc49, od49, .func (PySem.W.fnOf "unchecked_thing" "RingFamily.unchecked_thing" (defArgs s_Trees__RingFamily_unchecked_thing) (defBody s_Trees__RingFamily_unchecked_thing) (defScope s_Trees__RingFamily_unchecked_thing) .none kV49 dc49 pm49 an49 cd49 ct49), sl49⟩)
    (c49 : PySem.W.codeIn K cd49 "RingFamily.unchecked_thing" = true)
    (k49 : PySem.W.keepIn K (.ref f49) = true)
    (i49 : PySem.W.isFn K (.ref f49) = true)
    (l50 : K.lookup f50 = some ⟨oc50, od50, .func (PySem.W.fnOf "thing_of" "Family.thing_of" (defArgs s_Trees__Family_thing_of) (defBody s_Trees__Family_thing_of) (defScope s_Trees__Family_thing_of) .none kV50 dc50 pm50 an50 cd50 ct50), sl50⟩)
    (c50 : PySem.W.codeIn K cd50 "Family.thing_of" = true)
    (k50 : PySem.W.keepIn K (.ref f50) = true)
    (i50 : PySem.W.isFn K (.ref f50) = true)
    (l51 : K.lookup f51 = some ⟨oc51, od51, .func (PySem.W.fnOf "of_code" "Codes.of_code" (defArgs s_Codes__of_code) (defBody s_Codes__of_code) (defScope s_Codes__of_code) .none kV51 dc51 pm51 an51 cd51 ct51), sl51⟩)
    (c51 : PySem.W.codeIn K cd51 "Codes.of_code" = true)
    (k51 : PySem.W.keepIn K (.ref f51) = true)
    (i51 : PySem.W.isFn K (.ref f51) = true)
    (l52 : K.lookup f52 = some ⟨oc52, od52, .func (PySem.W.fnOf "unchecked_thing" "RingFamily.unchecked_thing" (defArgs s_Codes__RingFamily_unchecked_thing) (defBody s_Codes__RingFamily_unchecked_thing) (defScope s_Codes__RingFamily_unchecked_thing) .none kV52 dc52 pm52 an52 cd52 ct52), sl52⟩)
    (c52 : PySem.W.codeIn K cd52 "RingFamily.unchecked_thing" = true)
    (k52 : PySem.W.keepIn K (.ref f52) = true)
    (i52 : PySem.W.isFn K (.ref f52) = true)
    (l53 : K.lookup f53 = some ⟨oc53, od53, .func (PySem.W.fnOf "thing_of" "Family.thing_of" (defArgs s_Codes__Family_thing_of) (defBody s_Codes__Family_thing_of) (defScope s_Codes__Family_thing_of) .none kV53 dc53 pm53 an53 cd53 ct53), sl53⟩)
    (c53 : PySem.W.codeIn K cd53 "Family.thing_of" = true)
    (k53 : PySem.W.keepIn K (.ref f53) = true)
    (i53 : PySem.W.isFn K (.ref f53) = true)
    (a54 : PySem.W.nsIn K mainGlobals "_law_number_refused" = some (some (.ref f54)))
    (l54 : K.lookup f54 = some ⟨oc54, od54, .func (PySem.W.fnOf "_law_number_refused" "_law_number_refused" (defArgs s__law_number_refused) (defBody s__law_number_refused) (defScope s__law_number_refused) .none kV54 dc54 pm54 an54 cd54 ct54), sl54⟩)
    (c54 : PySem.W.codeIn K cd54 "_law_number_refused" = true)
    (k54 : PySem.W.keepIn K (.ref f54) = true)
    (l55 : K.lookup f55 = some ⟨oc55, od55, .func (PySem.W.fnOf "size_of" "Codes.size_of" (defArgs s_Codes__size_of) (defBody s_Codes__size_of) (defScope s_Codes__size_of) .none kV55 dc55 pm55 an55 cd55 ct55), sl55⟩)
    (c55 : PySem.W.codeIn K cd55 "Codes.size_of" = true)
    (k55 : PySem.W.keepIn K (.ref f55) = true)
    (i55 : PySem.W.isFn K (.ref f55) = true)
    (l56 : K.lookup f56 = some ⟨oc56, od56, .func (PySem.W.fnOf "size_of" "Trees.size_of" (defArgs s_Trees__size_of) (defBody s_Trees__size_of) (defScope s_Trees__size_of) .none kV56 dc56 pm56 an56 cd56 ct56), sl56⟩)
    (c56 : PySem.W.codeIn K cd56 "Trees.size_of" = true)
    (k56 : PySem.W.keepIn K (.ref f56) = true)
    (i56 : PySem.W.isFn K (.ref f56) = true)
    (l57 : K.lookup f57 = some ⟨oc57, od57, .func (PySem.W.fnOf "size_of" "Cars.size_of" (defArgs s_Cars__size_of) (defBody s_Cars__size_of) (defScope s_Cars__size_of) .none kV57 dc57 pm57 an57 cd57 ct57), sl57⟩)
    (c57 : PySem.W.codeIn K cd57 "Cars.size_of" = true)
    (k57 : PySem.W.keepIn K (.ref f57) = true)
    (i57 : PySem.W.isFn K (.ref f57) = true)
    (a58 : PySem.W.nsIn K mainGlobals "law" = some (some (.ref f58)))
    (l58 : K.lookup f58 = some ⟨oc58, od58, .func (PySem.W.fnOf "law" "law" (defArgs s_law) (defBody s_law) (defScope s_law) .none kV58 dc58 pm58 an58 cd58 ct58), sl58⟩)
    (c58 : PySem.W.codeIn K cd58 "law" = true)
    (k58 : PySem.W.keepIn K (.ref f58) = true)
    (pg_Codes : PySem.W.plainGet K C_Codes Str.empty = true)
    (hd_Codes : PySem.W.hasDictIn K C_Codes = true)
    (po_Codes : PySem.W.plainOver K C_Codes = true)
    (sa_Codes : PySem.W.findIn K (.ref C_Codes) "__setattr__" = some (some (.builtin "object.__setattr__")))
    (pg_Trees : PySem.W.plainGet K C_Trees Str.empty = true)
    (hd_Trees : PySem.W.hasDictIn K C_Trees = true)
    (po_Trees : PySem.W.plainOver K C_Trees = true)
    (sa_Trees : PySem.W.findIn K (.ref C_Trees) "__setattr__" = some (some (.builtin "object.__setattr__")))
    (pg_Cars : PySem.W.plainGet K C_Cars Str.empty = true)
    (hd_Cars : PySem.W.hasDictIn K C_Cars = true)
    (po_Cars : PySem.W.plainOver K C_Cars = true)
    (sa_Cars : PySem.W.findIn K (.ref C_Cars) "__setattr__" = some (some (.builtin "object.__setattr__")))
    (mk_Codes : PySem.W.makesIn K C_Codes = true)
    (kc_Codes : PySem.W.keepIn K (.ref C_Codes) = true)
    (mk_Trees : PySem.W.makesIn K C_Trees = true)
    (kc_Trees : PySem.W.keepIn K (.ref C_Trees) = true)
    (mk_Cars : PySem.W.makesIn K C_Cars = true)
    (kc_Cars : PySem.W.keepIn K (.ref C_Cars) = true)
    (na_Codes_word : PySem.W.findIn K (.ref C_Codes) "word" = some none)
    (na_Codes_least : PySem.W.findIn K (.ref C_Codes) "least" = some none)
    (na_Trees_word : PySem.W.findIn K (.ref C_Trees) "word" = some none)
    (na_Trees_least : PySem.W.findIn K (.ref C_Trees) "least" = some none)
    (na_Cars_word : PySem.W.findIn K (.ref C_Cars) "word" = some none)
    (na_Cars_least : PySem.W.findIn K (.ref C_Cars) "least" = some none)
    (ia_Codes : PySem.W.findIn K (.ref C_Codes) "__class__" = some (some (.builtin "object.__class__")))
    (im_Codes : PySem.W.mroIn K C_Codes (.type "object") = some true)
    (ia_Trees : PySem.W.findIn K (.ref C_Trees) "__class__" = some (some (.builtin "object.__class__")))
    (im_Trees : PySem.W.mroIn K C_Trees (.type "object") = some true)
    (ia_Cars : PySem.W.findIn K (.ref C_Cars) "__class__" = some (some (.builtin "object.__class__")))
    (im_Cars : PySem.W.mroIn K C_Cars (.type "object") = some true)
    (in_get : PySem.W.specialIn K (.builtin "object.__class__") "__get__" = some (some (.builtin "getset_descriptor.__get__")))
    (in_tk : PySem.W.takesIn K (.builtin "object.__class__") = some true)
    (ki_Codes_Family : PySem.W.kitOne K (.ref C_Codes) (.ref C_Family) = some true)
    (ki_Trees_Family : PySem.W.kitOne K (.ref C_Trees) (.ref C_Family) = some true)
    (ki_Cars_Family : PySem.W.kitOne K (.ref C_Cars) (.ref C_Family) = some true)
    (z_len : PySem.W.nsIn K mainGlobals "len" = some none)
    (z_int : PySem.W.nsIn K mainGlobals "int" = some none)
    (z_all : PySem.W.nsIn K mainGlobals "all" = some none)
    (z_range : PySem.W.nsIn K mainGlobals "range" = some none)
    (z_min : PySem.W.nsIn K mainGlobals "min" = some none)
    (z_sorted : PySem.W.nsIn K mainGlobals "sorted" = some none)
    (z_enumerate : PySem.W.nsIn K mainGlobals "enumerate" = some none)
    (z_isinstance : PySem.W.nsIn K mainGlobals "isinstance" = some none)
    (z_ValueError : PySem.W.nsIn K mainGlobals "ValueError" = some none)
    (z_list : PySem.W.nsIn K mainGlobals "list" = some none) {t_GREATEST_SIZE : Tok}
    (y_GREATEST_SIZE : PySem.W.nsIn K mainGlobals "GREATEST_SIZE" = some (some (Value.int 40 t_GREATEST_SIZE)))
    {c_kin : Addr} {c_size : Addr} {c_number : Addr} {c_thing : Addr} {c_family : Addr} {c_way : Addr} {c_apart : Addr} {c_mark : Addr} {c_text : Addr} {c_broken : Addr}
    (n_kin : PySem.W.nsIn K mainGlobals "KinError" = some (some (.ref c_kin)))
    (n_size : PySem.W.nsIn K mainGlobals "NoSize" = some (some (.ref c_size)))
    (n_number : PySem.W.nsIn K mainGlobals "NoNumber" = some (some (.ref c_number)))
    (n_thing : PySem.W.nsIn K mainGlobals "NoThing" = some (some (.ref c_thing)))
    (n_family : PySem.W.nsIn K mainGlobals "NoFamily" = some (some (.ref c_family)))
    (n_way : PySem.W.nsIn K mainGlobals "NoWay" = some (some (.ref c_way)))
    (n_apart : PySem.W.nsIn K mainGlobals "Apart" = some (some (.ref c_apart)))
    (n_mark : PySem.W.nsIn K mainGlobals "NoMark" = some (some (.ref c_mark)))
    (n_text : PySem.W.nsIn K mainGlobals "NoText" = some (some (.ref c_text)))
    (n_broken : PySem.W.nsIn K mainGlobals "Broken" = some (some (.ref c_broken)))
    (t_err : errTab K ⟨c_kin, c_size, c_number, c_thing, c_family, c_way, c_apart, c_mark, c_text, c_broken⟩ = true) :
    ∃ fd : FuncData, (∀ (s : Shared) (v : Value), BindsTo s fd ⟨[v], []⟩ [("_law_script", v)]) ∧ ∀ base : Heap, K.In base → base.Ns mainGlobals mg → FnOk l.prog w K mg base CX0 10 fa fd ["_law_script"] (spL K) := by
  have e := hfa.symm.trans (PySem.W.mg_of X G a58)
  cases e
  have EO : ErrOk K mg ⟨c_kin, c_size, c_number, c_thing, c_family, c_way, c_apart, c_mark, c_text, c_broken⟩ := errOk t_err (PySem.W.mg_of X G n_kin) (PySem.W.mg_of X G n_size) (PySem.W.mg_of X G n_number) (PySem.W.mg_of X G n_thing) (PySem.W.mg_of X G n_family) (PySem.W.mg_of X G n_way) (PySem.W.mg_of X G n_apart) (PySem.W.mg_of X G n_mark) (PySem.W.mg_of X G n_text) (PySem.W.mg_of X G n_broken)
  have CA : ClOk K mg ⟨C_Codes, C_Trees, C_Cars, C_Family, C_RingFamily, f3, f4, f5, f6, f7, f8, f9, f10, f11, f13, f14, f15, f17, f18, f19, f20, f21, f22, f23, f24, f25, f37, f38, f39, f40, f41, f42, f44, f46, f47, f48, f49, f50, f51, f52, f53, f55, f56, f57⟩ := ⟨PySem.W.mg_of X G nc_Family, PySem.W.mg_of X G nc_Codes, PySem.W.mg_of X G nc_Trees, PySem.W.mg_of X G nc_Cars, PySem.W.mg_of X G nc_RingFamily, ⟨pg_Codes, hd_Codes, po_Codes, sa_Codes⟩, ⟨pg_Trees, hd_Trees, po_Trees, sa_Trees⟩, ⟨pg_Cars, hd_Cars, po_Cars, sa_Cars⟩, ⟨a_Codes_thing_of, i53, k53⟩, ⟨a_Trees_thing_of, i50, k50⟩, ⟨a_Cars_thing_of, i47, k47⟩, ⟨a_Codes_size_of, i55, k55⟩, ⟨a_Trees_size_of, i56, k56⟩, ⟨a_Cars_size_of, i57, k57⟩, ⟨a_Codes_is_one, i13, k13⟩, ⟨a_Trees_is_one, i17, k17⟩, ⟨a_Cars_is_one, i20, k20⟩, ⟨a_Codes_number_of, i15, k15⟩, ⟨a_Trees_number_of, i19, k19⟩, ⟨a_Cars_number_of, i22, k22⟩, ⟨a_Codes_next_of, i23, k23⟩, ⟨a_Trees_next_of, i24, k24⟩, ⟨a_Cars_next_of, i25, k25⟩, ⟨a_Codes_refuse_other, i14, k14⟩, ⟨a_Trees_refuse_other, i18, k18⟩, ⟨a_Cars_refuse_other, i21, k21⟩, ⟨a_Cars_many, i38, k38⟩, ⟨a_Trees_many, i40, k40⟩, ⟨a_Codes_many, i42, k42⟩, ⟨a_Cars_unchecked_many, i37, k37⟩, ⟨a_Trees_unchecked_many, i39, k39⟩, ⟨a_Codes_unchecked_many, i41, k41⟩, ⟨a_Cars_unchecked_thing, i46, k46⟩, ⟨a_Cars_of_code, i44, k44⟩, ⟨a_Trees_unchecked_thing, i49, k49⟩, ⟨a_Trees_of_code, i48, k48⟩, ⟨a_Codes_unchecked_thing, i52, k52⟩, ⟨a_Codes_of_code, i51, k51⟩, ⟨mk_Codes, ai_Codes, i5, kc_Codes⟩, ⟨mk_Trees, ai_Trees, i8, kc_Trees⟩, ⟨mk_Cars, ai_Cars, i11, kc_Cars⟩, ⟨cg_RingFamily___init___Codes, cr_RingFamily___init___Codes, ch_RingFamily___init___Codes, k4⟩, ⟨cg_Family___init___Codes, cr_Family___init___Codes, ch_Family___init___Codes, k3⟩, ⟨cg_RingFamily___init___Trees, cr_RingFamily___init___Trees, ch_RingFamily___init___Trees, k7⟩, ⟨cg_Family___init___Trees, cr_Family___init___Trees, ch_Family___init___Trees, k6⟩, ⟨cg_RingFamily___init___Cars, cr_RingFamily___init___Cars, ch_RingFamily___init___Cars, k10⟩, ⟨cg_Family___init___Cars, cr_Family___init___Cars, ch_Family___init___Cars, k9⟩, na_Codes_word, na_Codes_least, na_Trees_word, na_Trees_least, na_Cars_word, na_Cars_least, ⟨⟨pg_Codes, hd_Codes, po_Codes, sa_Codes⟩, ia_Codes, in_get, in_tk, im_Codes⟩, ⟨⟨pg_Trees, hd_Trees, po_Trees, sa_Trees⟩, ia_Trees, in_get, in_tk, im_Trees⟩, ⟨⟨pg_Cars, hd_Cars, po_Cars, sa_Cars⟩, ia_Cars, in_get, in_tk, im_Cars⟩, ki_Codes_Family, ki_Trees_Family, ki_Cars_Family⟩
  have F1 := fun_mk (st := s__law_cell_at) l1 c1 k1
  have b1 := F1.binds (ps := ["_law_script", "_law_k"]) fun _ _ _ _ _ _ => lenAll2 (fun _ _ => rfl)
  have F2 := fun_mk (st := s__law_amiss) l2 c2 k2
  have b2 := F2.binds (ps := ["_law_word", "_law_size", "_law_far", "_law_some"]) fun _ _ _ _ _ _ => lenAll4 (fun _ _ _ _ => rfl)
  have F3 := fun_mk (st := s_Codes__Family___init__) l3 c3 k3
  have b3 := F3.binds (ps := ["self", "word", "least"]) fun _ _ _ _ _ _ => lenAll3 (fun _ _ _ => rfl)
  have F4 := fun_mk (st := s_Codes__RingFamily___init__) l4 c4 k4
  have b4 := F4.binds (ps := ["self", "word"]) fun _ _ _ _ _ _ => lenAll2 (fun _ _ => rfl)
  have F5 := fun_mk (st := s_Codes____init__) l5 c5 k5
  have b5 := F5.binds (ps := ["self"]) fun _ _ _ _ _ _ => lenAll1 (fun _ => rfl)
  have F6 := fun_mk (st := s_Trees__Family___init__) l6 c6 k6
  have b6 := F6.binds (ps := ["self", "word", "least"]) fun _ _ _ _ _ _ => lenAll3 (fun _ _ _ => rfl)
  have F7 := fun_mk (st := s_Trees__RingFamily___init__) l7 c7 k7
  have b7 := F7.binds (ps := ["self", "word"]) fun _ _ _ _ _ _ => lenAll2 (fun _ _ => rfl)
  have F8 := fun_mk (st := s_Trees____init__) l8 c8 k8
  have b8 := F8.binds (ps := ["self"]) fun _ _ _ _ _ _ => lenAll1 (fun _ => rfl)
  have F9 := fun_mk (st := s_Cars__Family___init__) l9 c9 k9
  have b9 := F9.binds (ps := ["self", "word", "least"]) fun _ _ _ _ _ _ => lenAll3 (fun _ _ _ => rfl)
  have F10 := fun_mk (st := s_Cars__RingFamily___init__) l10 c10 k10
  have b10 := F10.binds (ps := ["self", "word"]) fun _ _ _ _ _ _ => lenAll2 (fun _ _ => rfl)
  have F11 := fun_mk (st := s_Cars____init__) l11 c11 k11
  have b11 := F11.binds (ps := ["self"]) fun _ _ _ _ _ _ => lenAll1 (fun _ => rfl)
  have F12 := fun_mk (st := s__law_kin) l12 c12 k12
  have b12 := F12.binds (ps := ["_law_word"]) fun _ _ _ _ _ _ => lenAll1 (fun _ => rfl)
  have F13 := fun_mk (st := s_Codes__is_one) l13 c13 k13
  have b13 := F13.binds (ps := ["self", "thing"]) fun _ _ _ _ _ _ => lenAll2 (fun _ _ => rfl)
  have F14 := fun_mk (st := s_Codes__Family_refuse_other) l14 c14 k14
  have b14 := F14.binds (ps := ["self", "thing"]) fun _ _ _ _ _ _ => lenAll2 (fun _ _ => rfl)
  have F15 := fun_mk (st := s_Codes__Family_number_of) l15 c15 k15
  have b15 := F15.binds (ps := ["self", "thing"]) fun _ _ _ _ _ _ => lenAll2 (fun _ _ => rfl)
  have F16 := fun_mk (st := s_comes_to_0) l16 c16 k16
  have b16 := F16.binds (ps := ["elders", "knot"]) fun _ _ _ _ _ _ => lenAll2 (fun _ _ => rfl)
  have F17 := fun_mk (st := s_Trees__is_one) l17 c17 k17
  have b17 := F17.binds (ps := ["self", "thing"]) fun _ _ _ _ _ _ => lenAll2 (fun _ _ => rfl)
  have F18 := fun_mk (st := s_Trees__Family_refuse_other) l18 c18 k18
  have b18 := F18.binds (ps := ["self", "thing"]) fun _ _ _ _ _ _ => lenAll2 (fun _ _ => rfl)
  have F19 := fun_mk (st := s_Trees__Family_number_of) l19 c19 k19
  have b19 := F19.binds (ps := ["self", "thing"]) fun _ _ _ _ _ _ => lenAll2 (fun _ _ => rfl)
  have F20 := fun_mk (st := s_Cars__is_one) l20 c20 k20
  have b20 := F20.binds (ps := ["self", "thing"]) fun _ _ _ _ _ _ => lenAll2 (fun _ _ => rfl)
  have F21 := fun_mk (st := s_Cars__Family_refuse_other) l21 c21 k21
  have b21 := F21.binds (ps := ["self", "thing"]) fun _ _ _ _ _ _ => lenAll2 (fun _ _ => rfl)
  have F22 := fun_mk (st := s_Cars__Family_number_of) l22 c22 k22
  have b22 := F22.binds (ps := ["self", "thing"]) fun _ _ _ _ _ _ => lenAll2 (fun _ _ => rfl)
  have F23 := fun_mk (st := s_Codes__Family_next_of) l23 c23 k23
  have b23 := F23.binds (ps := ["self", "thing"]) fun _ _ _ _ _ _ => lenAll2 (fun _ _ => rfl)
  have F24 := fun_mk (st := s_Trees__Family_next_of) l24 c24 k24
  have b24 := F24.binds (ps := ["self", "thing"]) fun _ _ _ _ _ _ => lenAll2 (fun _ _ => rfl)
  have F25 := fun_mk (st := s_Cars__Family_next_of) l25 c25 k25
  have b25 := F25.binds (ps := ["self", "thing"]) fun _ _ _ _ _ _ => lenAll2 (fun _ _ => rfl)
  have F26 := fun_mk (st := s_code_to_tree) l26 c26 k26
  have b26 := F26.binds (ps := ["thing"]) fun _ _ _ _ _ _ => lenAll1 (fun _ => rfl)
  have F27 := fun_mk (st := s_code_to_cars) l27 c27 k27
  have b27 := F27.binds (ps := ["thing"]) fun _ _ _ _ _ _ => lenAll1 (fun _ => rfl)
  have F28 := fun_mk (st := s_tree_to_code) l28 c28 k28
  have b28 := F28.binds (ps := ["thing"]) fun _ _ _ _ _ _ => lenAll1 (fun _ => rfl)
  have F29 := fun_mk (st := s_tree_to_cars) l29 c29 k29
  have b29 := F29.binds (ps := ["thing"]) fun _ _ _ _ _ _ => lenAll1 (fun _ => rfl)
  have F30 := fun_mk (st := s_cars_to_code) l30 c30 k30
  have b30 := F30.binds (ps := ["thing"]) fun _ _ _ _ _ _ => lenAll1 (fun _ => rfl)
  have F31 := fun_mk (st := s_cars_to_tree) l31 c31 k31
  have b31 := F31.binds (ps := ["thing"]) fun _ _ _ _ _ _ => lenAll1 (fun _ => rfl)
  have F32 := fun_mk (st := s_parked) l32 c32 k32
  have b32 := F32.binds (ps := ["thing"]) fun _ _ _ _ _ _ => lenAll1 (fun _ => rfl)
  have F33 := fun_mk (st := s__law_asked) l33 c33 k33
  have b33 := F33.binds (ps := ["_law_word", "_law_some", "_law_thing"]) fun _ _ _ _ _ _ => lenAll3 (fun _ _ _ => rfl)
  have F34 := fun_mk (st := s__law_classes) l34 c34 k34
  have b34 := F34.binds (ps := ["_law_error"]) fun _ _ _ _ _ _ => lenAll1 (fun _ => rfl)
  have F35 := fun_mk (st := s__law_refused) l35 c35 k35
  have b35 := F35.binds (ps := ["_law_word", "_law_some", "_law_thing"]) fun _ _ _ _ _ _ => lenAll3 (fun _ _ _ => rfl)
  have F36 := fun_mk (st := s_ring_many) l36 c36 k36
  have b36 := F36.binds (ps := ["size"]) fun _ _ _ _ _ _ => lenAll1 (fun _ => rfl)
  have F37 := fun_mk (st := s_Cars__RingFamily_unchecked_many) l37 c37 k37
  have b37 := F37.binds (ps := ["self", "size"]) fun _ _ _ _ _ _ => lenAll2 (fun _ _ => rfl)
  have F38 := fun_mk (st := s_Cars__Family_many) l38 c38 k38
  have b38 := F38.binds (ps := ["self", "size"]) fun _ _ _ _ _ _ => lenAll2 (fun _ _ => rfl)
  have F39 := fun_mk (st := s_Trees__RingFamily_unchecked_many) l39 c39 k39
  have b39 := F39.binds (ps := ["self", "size"]) fun _ _ _ _ _ _ => lenAll2 (fun _ _ => rfl)
  have F40 := fun_mk (st := s_Trees__Family_many) l40 c40 k40
  have b40 := F40.binds (ps := ["self", "size"]) fun _ _ _ _ _ _ => lenAll2 (fun _ _ => rfl)
  have F41 := fun_mk (st := s_Codes__RingFamily_unchecked_many) l41 c41 k41
  have b41 := F41.binds (ps := ["self", "size"]) fun _ _ _ _ _ _ => lenAll2 (fun _ _ => rfl)
  have F42 := fun_mk (st := s_Codes__Family_many) l42 c42 k42
  have b42 := F42.binds (ps := ["self", "size"]) fun _ _ _ _ _ _ => lenAll2 (fun _ _ => rfl)
  have F43 := fun_mk (st := s__law_size_refused) l43 c43 k43
  have b43 := F43.binds (ps := ["_law_kin_here", "_law_size"]) fun _ _ _ _ _ _ => lenAll2 (fun _ _ => rfl)
  have F44 := fun_mk (st := s_Cars__of_code) l44 c44 k44
  have b44 := F44.binds (ps := ["self", "code"]) fun _ _ _ _ _ _ => lenAll2 (fun _ _ => rfl)
  have F45 := fun_mk (st := s_number_figures) l45 c45 k45
  have b45 := F45.binds (ps := ["number", "base", "length"]) fun _ _ _ _ _ _ => lenAll3 (fun _ _ _ => rfl)
  have F46 := fun_mk (st := s_Cars__RingFamily_unchecked_thing) l46 c46 k46
  have b46 := F46.binds (ps := ["self", "size", "number"]) fun _ _ _ _ _ _ => lenAll3 (fun _ _ _ => rfl)
  have F47 := fun_mk (st := s_Cars__Family_thing_of) l47 c47 k47
  have b47 := F47.binds (ps := ["self", "size", "number"]) fun _ _ _ _ _ _ => lenAll3 (fun _ _ _ => rfl)
  have F48 := fun_mk (st := s_Trees__of_code) l48 c48 k48
  have b48 := F48.binds (ps := ["self", "code"]) fun _ _ _ _ _ _ => lenAll2 (fun _ _ => rfl)
  have F49 := fun_mk (st := s_Trees__RingFamily_unchecked_thing) l49 c49 k49
  have b49 := F49.binds (ps := ["self", "size", "number"]) fun _ _ _ _ _ _ => lenAll3 (fun _ _ _ => rfl)
  have F50 := fun_mk (st := s_Trees__Family_thing_of) l50 c50 k50
  have b50 := F50.binds (ps := ["self", "size", "number"]) fun _ _ _ _ _ _ => lenAll3 (fun _ _ _ => rfl)
  have F51 := fun_mk (st := s_Codes__of_code) l51 c51 k51
  have b51 := F51.binds (ps := ["self", "code"]) fun _ _ _ _ _ _ => lenAll2 (fun _ _ => rfl)
  have F52 := fun_mk (st := s_Codes__RingFamily_unchecked_thing) l52 c52 k52
  have b52 := F52.binds (ps := ["self", "size", "number"]) fun _ _ _ _ _ _ => lenAll3 (fun _ _ _ => rfl)
  have F53 := fun_mk (st := s_Codes__Family_thing_of) l53 c53 k53
  have b53 := F53.binds (ps := ["self", "size", "number"]) fun _ _ _ _ _ _ => lenAll3 (fun _ _ _ => rfl)
  have F54 := fun_mk (st := s__law_number_refused) l54 c54 k54
  have b54 := F54.binds (ps := ["_law_kin_here", "_law_size", "_law_number"]) fun _ _ _ _ _ _ => lenAll3 (fun _ _ _ => rfl)
  have F55 := fun_mk (st := s_Codes__size_of) l55 c55 k55
  have b55 := F55.binds (ps := ["self", "thing"]) fun _ _ _ _ _ _ => lenAll2 (fun _ _ => rfl)
  have F56 := fun_mk (st := s_Trees__size_of) l56 c56 k56
  have b56 := F56.binds (ps := ["self", "thing"]) fun _ _ _ _ _ _ => lenAll2 (fun _ _ => rfl)
  have F57 := fun_mk (st := s_Cars__size_of) l57 c57 k57
  have b57 := F57.binds (ps := ["self", "thing"]) fun _ _ _ _ _ _ => lenAll2 (fun _ _ => rfl)
  have F58 := fun_mk (st := s_law) l58 c58 k58
  have m_len := PySem.W.mg_none_of X G z_len
  have m_int := PySem.W.mg_none_of X G z_int
  have m_all := PySem.W.mg_none_of X G z_all
  have m_range := PySem.W.mg_none_of X G z_range
  have m_min := PySem.W.mg_none_of X G z_min
  have m_sorted := PySem.W.mg_none_of X G z_sorted
  have m_enumerate := PySem.W.mg_none_of X G z_enumerate
  have m_isinstance := PySem.W.mg_none_of X G z_isinstance
  have m_ValueError := PySem.W.mg_none_of X G z_ValueError
  have m_list := PySem.W.mg_none_of X G z_list
  have g_GREATEST_SIZE : mg "GREATEST_SIZE" = some (Value.int 40 t_GREATEST_SIZE) ∧ RelV (.int 40) (Value.int 40 t_GREATEST_SIZE) := ⟨PySem.W.mg_of X G y_GREATEST_SIZE, ⟨_, rfl⟩⟩
  refine ⟨PySem.W.fnOf "law" "law" (defArgs s_law) (defBody s_law) (defScope s_law) .none kV58 dc58 pm58 an58 cd58 ct58, fun s v => .of_eq rfl, fun base _ _ => ?_⟩
  have d__law_cell_at : Def l.prog w K mg base "_law_cell_at" ["_law_script", "_law_k"] 1 (sp__law_cell_at K ⟨C_Codes, C_Trees, C_Cars, C_Family, C_RingFamily, f3, f4, f5, f6, f7, f8, f9, f10, f11, f13, f14, f15, f17, f18, f19, f20, f21, f22, f23, f24, f25, f37, f38, f39, f40, f41, f42, f44, f46, f47, f48, f49, f50, f51, f52, f53, f55, f56, f57⟩) f1 _ := ⟨(ok__law_cell_at (P := l.prog) (w := w) (base := base) EO CA F1 m_len).up, b1, k1, PySem.W.mg_of X G a1⟩
  have d__law_amiss : Def l.prog w K mg base "_law_amiss" ["_law_word", "_law_size", "_law_far", "_law_some"] 1 (sp__law_amiss K ⟨C_Codes, C_Trees, C_Cars, C_Family, C_RingFamily, f3, f4, f5, f6, f7, f8, f9, f10, f11, f13, f14, f15, f17, f18, f19, f20, f21, f22, f23, f24, f25, f37, f38, f39, f40, f41, f42, f44, f46, f47, f48, f49, f50, f51, f52, f53, f55, f56, f57⟩) f2 _ := ⟨(ok__law_amiss (P := l.prog) (w := w) (base := base) EO CA F2 m_int m_len).up, b2, k2, PySem.W.mg_of X G a2⟩
  have d_Codes__Family___init__ : MDef l.prog w K mg base ["self", "word", "least"] 1 (sp_Codes__Family___init__ K ⟨C_Codes, C_Trees, C_Cars, C_Family, C_RingFamily, f3, f4, f5, f6, f7, f8, f9, f10, f11, f13, f14, f15, f17, f18, f19, f20, f21, f22, f23, f24, f25, f37, f38, f39, f40, f41, f42, f44, f46, f47, f48, f49, f50, f51, f52, f53, f55, f56, f57⟩) f3 _ := ⟨(ok_Codes__Family___init__ (P := l.prog) (w := w) (base := base) EO CA F3).up, b3⟩
  have d_Codes__RingFamily___init__ : MDef l.prog w K mg base ["self", "word"] 3 (sp_Codes__RingFamily___init__ K ⟨C_Codes, C_Trees, C_Cars, C_Family, C_RingFamily, f3, f4, f5, f6, f7, f8, f9, f10, f11, f13, f14, f15, f17, f18, f19, f20, f21, f22, f23, f24, f25, f37, f38, f39, f40, f41, f42, f44, f46, f47, f48, f49, f50, f51, f52, f53, f55, f56, f57⟩) f4 _ := ⟨(ok_Codes__RingFamily___init__ (P := l.prog) (w := w) (base := base) EO CA F4 d_Codes__Family___init__).up, b4⟩
  have d_Codes____init__ : MDef l.prog w K mg base ["self"] 5 (sp_Codes____init__ K ⟨C_Codes, C_Trees, C_Cars, C_Family, C_RingFamily, f3, f4, f5, f6, f7, f8, f9, f10, f11, f13, f14, f15, f17, f18, f19, f20, f21, f22, f23, f24, f25, f37, f38, f39, f40, f41, f42, f44, f46, f47, f48, f49, f50, f51, f52, f53, f55, f56, f57⟩) f5 _ := ⟨(ok_Codes____init__ (P := l.prog) (w := w) (base := base) EO CA F5 d_Codes__RingFamily___init__).up, b5⟩
  have d_Trees__Family___init__ : MDef l.prog w K mg base ["self", "word", "least"] 1 (sp_Trees__Family___init__ K ⟨C_Codes, C_Trees, C_Cars, C_Family, C_RingFamily, f3, f4, f5, f6, f7, f8, f9, f10, f11, f13, f14, f15, f17, f18, f19, f20, f21, f22, f23, f24, f25, f37, f38, f39, f40, f41, f42, f44, f46, f47, f48, f49, f50, f51, f52, f53, f55, f56, f57⟩) f6 _ := ⟨(ok_Trees__Family___init__ (P := l.prog) (w := w) (base := base) EO CA F6).up, b6⟩
  have d_Trees__RingFamily___init__ : MDef l.prog w K mg base ["self", "word"] 3 (sp_Trees__RingFamily___init__ K ⟨C_Codes, C_Trees, C_Cars, C_Family, C_RingFamily, f3, f4, f5, f6, f7, f8, f9, f10, f11, f13, f14, f15, f17, f18, f19, f20, f21, f22, f23, f24, f25, f37, f38, f39, f40, f41, f42, f44, f46, f47, f48, f49, f50, f51, f52, f53, f55, f56, f57⟩) f7 _ := ⟨(ok_Trees__RingFamily___init__ (P := l.prog) (w := w) (base := base) EO CA F7 d_Trees__Family___init__).up, b7⟩
  have d_Trees____init__ : MDef l.prog w K mg base ["self"] 5 (sp_Trees____init__ K ⟨C_Codes, C_Trees, C_Cars, C_Family, C_RingFamily, f3, f4, f5, f6, f7, f8, f9, f10, f11, f13, f14, f15, f17, f18, f19, f20, f21, f22, f23, f24, f25, f37, f38, f39, f40, f41, f42, f44, f46, f47, f48, f49, f50, f51, f52, f53, f55, f56, f57⟩) f8 _ := ⟨(ok_Trees____init__ (P := l.prog) (w := w) (base := base) EO CA F8 d_Trees__RingFamily___init__).up, b8⟩
  have d_Cars__Family___init__ : MDef l.prog w K mg base ["self", "word", "least"] 1 (sp_Cars__Family___init__ K ⟨C_Codes, C_Trees, C_Cars, C_Family, C_RingFamily, f3, f4, f5, f6, f7, f8, f9, f10, f11, f13, f14, f15, f17, f18, f19, f20, f21, f22, f23, f24, f25, f37, f38, f39, f40, f41, f42, f44, f46, f47, f48, f49, f50, f51, f52, f53, f55, f56, f57⟩) f9 _ := ⟨(ok_Cars__Family___init__ (P := l.prog) (w := w) (base := base) EO CA F9).up, b9⟩
  have d_Cars__RingFamily___init__ : MDef l.prog w K mg base ["self", "word"] 3 (sp_Cars__RingFamily___init__ K ⟨C_Codes, C_Trees, C_Cars, C_Family, C_RingFamily, f3, f4, f5, f6, f7, f8, f9, f10, f11, f13, f14, f15, f17, f18, f19, f20, f21, f22, f23, f24, f25, f37, f38, f39, f40, f41, f42, f44, f46, f47, f48, f49, f50, f51, f52, f53, f55, f56, f57⟩) f10 _ := ⟨(ok_Cars__RingFamily___init__ (P := l.prog) (w := w) (base := base) EO CA F10 d_Cars__Family___init__).up, b10⟩
  have d_Cars____init__ : MDef l.prog w K mg base ["self"] 5 (sp_Cars____init__ K ⟨C_Codes, C_Trees, C_Cars, C_Family, C_RingFamily, f3, f4, f5, f6, f7, f8, f9, f10, f11, f13, f14, f15, f17, f18, f19, f20, f21, f22, f23, f24, f25, f37, f38, f39, f40, f41, f42, f44, f46, f47, f48, f49, f50, f51, f52, f53, f55, f56, f57⟩) f11 _ := ⟨(ok_Cars____init__ (P := l.prog) (w := w) (base := base) EO CA F11 d_Cars__RingFamily___init__).up, b11⟩
  have d__law_kin : Def l.prog w K mg base "_law_kin" ["_law_word"] 7 (sp__law_kin K ⟨C_Codes, C_Trees, C_Cars, C_Family, C_RingFamily, f3, f4, f5, f6, f7, f8, f9, f10, f11, f13, f14, f15, f17, f18, f19, f20, f21, f22, f23, f24, f25, f37, f38, f39, f40, f41, f42, f44, f46, f47, f48, f49, f50, f51, f52, f53, f55, f56, f57⟩) f12 _ := ⟨(ok__law_kin (P := l.prog) (w := w) (base := base) EO CA F12 d_Codes____init__ d_Trees____init__ d_Cars____init__).up, b12, k12, PySem.W.mg_of X G a12⟩
  have d_Codes__is_one : MDef l.prog w K mg base ["self", "thing"] 1 (sp_Codes__is_one K ⟨C_Codes, C_Trees, C_Cars, C_Family, C_RingFamily, f3, f4, f5, f6, f7, f8, f9, f10, f11, f13, f14, f15, f17, f18, f19, f20, f21, f22, f23, f24, f25, f37, f38, f39, f40, f41, f42, f44, f46, f47, f48, f49, f50, f51, f52, f53, f55, f56, f57⟩) f13 _ := ⟨(ok_Codes__is_one (P := l.prog) (w := w) (base := base) EO CA F13 m_len m_all).up, b13⟩
  have d_Codes__Family_refuse_other : MDef l.prog w K mg base ["self", "thing"] 2 (sp_Codes__Family_refuse_other K ⟨C_Codes, C_Trees, C_Cars, C_Family, C_RingFamily, f3, f4, f5, f6, f7, f8, f9, f10, f11, f13, f14, f15, f17, f18, f19, f20, f21, f22, f23, f24, f25, f37, f38, f39, f40, f41, f42, f44, f46, f47, f48, f49, f50, f51, f52, f53, f55, f56, f57⟩ ⟨c_kin, c_size, c_number, c_thing, c_family, c_way, c_apart, c_mark, c_text, c_broken⟩) f14 _ := ⟨(ok_Codes__Family_refuse_other (P := l.prog) (w := w) (base := base) EO CA F14 d_Codes__is_one), b14⟩
  have d_Codes__Family_number_of : MDef l.prog w K mg base ["self", "thing"] 3 (sp_Codes__Family_number_of K ⟨C_Codes, C_Trees, C_Cars, C_Family, C_RingFamily, f3, f4, f5, f6, f7, f8, f9, f10, f11, f13, f14, f15, f17, f18, f19, f20, f21, f22, f23, f24, f25, f37, f38, f39, f40, f41, f42, f44, f46, f47, f48, f49, f50, f51, f52, f53, f55, f56, f57⟩ ⟨c_kin, c_size, c_number, c_thing, c_family, c_way, c_apart, c_mark, c_text, c_broken⟩) f15 _ := ⟨(ok_Codes__Family_number_of (P := l.prog) (w := w) (base := base) EO CA F15 d_Codes__Family_refuse_other), b15⟩
  have d_comes_to_0 : Def l.prog w K mg base "comes_to_0" ["elders", "knot"] 1 (sp_comes_to_0 K ⟨C_Codes, C_Trees, C_Cars, C_Family, C_RingFamily, f3, f4, f5, f6, f7, f8, f9, f10, f11, f13, f14, f15, f17, f18, f19, f20, f21, f22, f23, f24, f25, f37, f38, f39, f40, f41, f42, f44, f46, f47, f48, f49, f50, f51, f52, f53, f55, f56, f57⟩) f16 _ := ⟨(ok_comes_to_0 (P := l.prog) (w := w) (base := base) EO CA F16 m_range m_len).up, b16, k16, PySem.W.mg_of X G a16⟩
  have d_Trees__is_one : MDef l.prog w K mg base ["self", "thing"] 2 (sp_Trees__is_one K ⟨C_Codes, C_Trees, C_Cars, C_Family, C_RingFamily, f3, f4, f5, f6, f7, f8, f9, f10, f11, f13, f14, f15, f17, f18, f19, f20, f21, f22, f23, f24, f25, f37, f38, f39, f40, f41, f42, f44, f46, f47, f48, f49, f50, f51, f52, f53, f55, f56, f57⟩) f17 _ := ⟨(ok_Trees__is_one (P := l.prog) (w := w) (base := base) EO CA F17 d_comes_to_0 m_len m_all m_range).up, b17⟩
  have d_Trees__Family_refuse_other : MDef l.prog w K mg base ["self", "thing"] 3 (sp_Trees__Family_refuse_other K ⟨C_Codes, C_Trees, C_Cars, C_Family, C_RingFamily, f3, f4, f5, f6, f7, f8, f9, f10, f11, f13, f14, f15, f17, f18, f19, f20, f21, f22, f23, f24, f25, f37, f38, f39, f40, f41, f42, f44, f46, f47, f48, f49, f50, f51, f52, f53, f55, f56, f57⟩ ⟨c_kin, c_size, c_number, c_thing, c_family, c_way, c_apart, c_mark, c_text, c_broken⟩) f18 _ := ⟨(ok_Trees__Family_refuse_other (P := l.prog) (w := w) (base := base) EO CA F18 d_Trees__is_one), b18⟩
  have d_Trees__Family_number_of : MDef l.prog w K mg base ["self", "thing"] 4 (sp_Trees__Family_number_of K ⟨C_Codes, C_Trees, C_Cars, C_Family, C_RingFamily, f3, f4, f5, f6, f7, f8, f9, f10, f11, f13, f14, f15, f17, f18, f19, f20, f21, f22, f23, f24, f25, f37, f38, f39, f40, f41, f42, f44, f46, f47, f48, f49, f50, f51, f52, f53, f55, f56, f57⟩ ⟨c_kin, c_size, c_number, c_thing, c_family, c_way, c_apart, c_mark, c_text, c_broken⟩) f19 _ := ⟨(ok_Trees__Family_number_of (P := l.prog) (w := w) (base := base) EO CA F19 d_Trees__Family_refuse_other), b19⟩
  have d_Cars__is_one : MDef l.prog w K mg base ["self", "thing"] 1 (sp_Cars__is_one K ⟨C_Codes, C_Trees, C_Cars, C_Family, C_RingFamily, f3, f4, f5, f6, f7, f8, f9, f10, f11, f13, f14, f15, f17, f18, f19, f20, f21, f22, f23, f24, f25, f37, f38, f39, f40, f41, f42, f44, f46, f47, f48, f49, f50, f51, f52, f53, f55, f56, f57⟩) f20 _ := ⟨(ok_Cars__is_one (P := l.prog) (w := w) (base := base) EO CA F20 m_min m_all m_sorted m_enumerate).up, b20⟩
  have d_Cars__Family_refuse_other : MDef l.prog w K mg base ["self", "thing"] 2 (sp_Cars__Family_refuse_other K ⟨C_Codes, C_Trees, C_Cars, C_Family, C_RingFamily, f3, f4, f5, f6, f7, f8, f9, f10, f11, f13, f14, f15, f17, f18, f19, f20, f21, f22, f23, f24, f25, f37, f38, f39, f40, f41, f42, f44, f46, f47, f48, f49, f50, f51, f52, f53, f55, f56, f57⟩ ⟨c_kin, c_size, c_number, c_thing, c_family, c_way, c_apart, c_mark, c_text, c_broken⟩) f21 _ := ⟨(ok_Cars__Family_refuse_other (P := l.prog) (w := w) (base := base) EO CA F21 d_Cars__is_one), b21⟩
  have d_Cars__Family_number_of : MDef l.prog w K mg base ["self", "thing"] 3 (sp_Cars__Family_number_of K ⟨C_Codes, C_Trees, C_Cars, C_Family, C_RingFamily, f3, f4, f5, f6, f7, f8, f9, f10, f11, f13, f14, f15, f17, f18, f19, f20, f21, f22, f23, f24, f25, f37, f38, f39, f40, f41, f42, f44, f46, f47, f48, f49, f50, f51, f52, f53, f55, f56, f57⟩ ⟨c_kin, c_size, c_number, c_thing, c_family, c_way, c_apart, c_mark, c_text, c_broken⟩) f22 _ := ⟨(ok_Cars__Family_number_of (P := l.prog) (w := w) (base := base) EO CA F22 d_Cars__Family_refuse_other), b22⟩
  have d_Codes__Family_next_of : MDef l.prog w K mg base ["self", "thing"] 4 (sp_Codes__Family_next_of K ⟨C_Codes, C_Trees, C_Cars, C_Family, C_RingFamily, f3, f4, f5, f6, f7, f8, f9, f10, f11, f13, f14, f15, f17, f18, f19, f20, f21, f22, f23, f24, f25, f37, f38, f39, f40, f41, f42, f44, f46, f47, f48, f49, f50, f51, f52, f53, f55, f56, f57⟩ ⟨c_kin, c_size, c_number, c_thing, c_family, c_way, c_apart, c_mark, c_text, c_broken⟩) f23 _ := ⟨(ok_Codes__Family_next_of (P := l.prog) (w := w) (base := base) EO CA F23 d_Codes__Family_number_of), b23⟩
  have d_Trees__Family_next_of : MDef l.prog w K mg base ["self", "thing"] 5 (sp_Trees__Family_next_of K ⟨C_Codes, C_Trees, C_Cars, C_Family, C_RingFamily, f3, f4, f5, f6, f7, f8, f9, f10, f11, f13, f14, f15, f17, f18, f19, f20, f21, f22, f23, f24, f25, f37, f38, f39, f40, f41, f42, f44, f46, f47, f48, f49, f50, f51, f52, f53, f55, f56, f57⟩ ⟨c_kin, c_size, c_number, c_thing, c_family, c_way, c_apart, c_mark, c_text, c_broken⟩) f24 _ := ⟨(ok_Trees__Family_next_of (P := l.prog) (w := w) (base := base) EO CA F24 d_Trees__Family_number_of), b24⟩
  have d_Cars__Family_next_of : MDef l.prog w K mg base ["self", "thing"] 4 (sp_Cars__Family_next_of K ⟨C_Codes, C_Trees, C_Cars, C_Family, C_RingFamily, f3, f4, f5, f6, f7, f8, f9, f10, f11, f13, f14, f15, f17, f18, f19, f20, f21, f22, f23, f24, f25, f37, f38, f39, f40, f41, f42, f44, f46, f47, f48, f49, f50, f51, f52, f53, f55, f56, f57⟩ ⟨c_kin, c_size, c_number, c_thing, c_family, c_way, c_apart, c_mark, c_text, c_broken⟩) f25 _ := ⟨(ok_Cars__Family_next_of (P := l.prog) (w := w) (base := base) EO CA F25 d_Cars__Family_number_of), b25⟩
  have d_code_to_tree : Def l.prog w K mg base "code_to_tree" ["thing"] 7 (sp_code_to_tree K ⟨C_Codes, C_Trees, C_Cars, C_Family, C_RingFamily, f3, f4, f5, f6, f7, f8, f9, f10, f11, f13, f14, f15, f17, f18, f19, f20, f21, f22, f23, f24, f25, f37, f38, f39, f40, f41, f42, f44, f46, f47, f48, f49, f50, f51, f52, f53, f55, f56, f57⟩ ⟨c_kin, c_size, c_number, c_thing, c_family, c_way, c_apart, c_mark, c_text, c_broken⟩) f26 _ := ⟨(ok_code_to_tree (P := l.prog) (w := w) (base := base) EO CA F26 d_Codes____init__ d_Codes__Family_refuse_other), b26, k26, PySem.W.mg_of X G a26⟩
  have d_code_to_cars : Def l.prog w K mg base "code_to_cars" ["thing"] 7 (sp_code_to_cars K ⟨C_Codes, C_Trees, C_Cars, C_Family, C_RingFamily, f3, f4, f5, f6, f7, f8, f9, f10, f11, f13, f14, f15, f17, f18, f19, f20, f21, f22, f23, f24, f25, f37, f38, f39, f40, f41, f42, f44, f46, f47, f48, f49, f50, f51, f52, f53, f55, f56, f57⟩ ⟨c_kin, c_size, c_number, c_thing, c_family, c_way, c_apart, c_mark, c_text, c_broken⟩) f27 _ := ⟨(ok_code_to_cars (P := l.prog) (w := w) (base := base) EO CA F27 d_Codes____init__ d_Codes__Family_refuse_other), b27, k27, PySem.W.mg_of X G a27⟩
  have d_tree_to_code : Def l.prog w K mg base "tree_to_code" ["thing"] 7 (sp_tree_to_code K ⟨C_Codes, C_Trees, C_Cars, C_Family, C_RingFamily, f3, f4, f5, f6, f7, f8, f9, f10, f11, f13, f14, f15, f17, f18, f19, f20, f21, f22, f23, f24, f25, f37, f38, f39, f40, f41, f42, f44, f46, f47, f48, f49, f50, f51, f52, f53, f55, f56, f57⟩ ⟨c_kin, c_size, c_number, c_thing, c_family, c_way, c_apart, c_mark, c_text, c_broken⟩) f28 _ := ⟨(ok_tree_to_code (P := l.prog) (w := w) (base := base) EO CA F28 d_Trees____init__ d_Trees__Family_refuse_other), b28, k28, PySem.W.mg_of X G a28⟩
  have d_tree_to_cars : Def l.prog w K mg base "tree_to_cars" ["thing"] 7 (sp_tree_to_cars K ⟨C_Codes, C_Trees, C_Cars, C_Family, C_RingFamily, f3, f4, f5, f6, f7, f8, f9, f10, f11, f13, f14, f15, f17, f18, f19, f20, f21, f22, f23, f24, f25, f37, f38, f39, f40, f41, f42, f44, f46, f47, f48, f49, f50, f51, f52, f53, f55, f56, f57⟩ ⟨c_kin, c_size, c_number, c_thing, c_family, c_way, c_apart, c_mark, c_text, c_broken⟩) f29 _ := ⟨(ok_tree_to_cars (P := l.prog) (w := w) (base := base) EO CA F29 d_Trees____init__ d_Trees__Family_refuse_other), b29, k29, PySem.W.mg_of X G a29⟩
  have d_cars_to_code : Def l.prog w K mg base "cars_to_code" ["thing"] 7 (sp_cars_to_code K ⟨C_Codes, C_Trees, C_Cars, C_Family, C_RingFamily, f3, f4, f5, f6, f7, f8, f9, f10, f11, f13, f14, f15, f17, f18, f19, f20, f21, f22, f23, f24, f25, f37, f38, f39, f40, f41, f42, f44, f46, f47, f48, f49, f50, f51, f52, f53, f55, f56, f57⟩ ⟨c_kin, c_size, c_number, c_thing, c_family, c_way, c_apart, c_mark, c_text, c_broken⟩) f30 _ := ⟨(ok_cars_to_code (P := l.prog) (w := w) (base := base) EO CA F30 d_Cars____init__ d_Cars__Family_refuse_other), b30, k30, PySem.W.mg_of X G a30⟩
  have d_cars_to_tree : Def l.prog w K mg base "cars_to_tree" ["thing"] 7 (sp_cars_to_tree K ⟨C_Codes, C_Trees, C_Cars, C_Family, C_RingFamily, f3, f4, f5, f6, f7, f8, f9, f10, f11, f13, f14, f15, f17, f18, f19, f20, f21, f22, f23, f24, f25, f37, f38, f39, f40, f41, f42, f44, f46, f47, f48, f49, f50, f51, f52, f53, f55, f56, f57⟩ ⟨c_kin, c_size, c_number, c_thing, c_family, c_way, c_apart, c_mark, c_text, c_broken⟩) f31 _ := ⟨(ok_cars_to_tree (P := l.prog) (w := w) (base := base) EO CA F31 d_Cars____init__ d_Cars__Family_refuse_other), b31, k31, PySem.W.mg_of X G a31⟩
  have d_parked : Def l.prog w K mg base "parked" ["thing"] 7 (sp_parked K ⟨C_Codes, C_Trees, C_Cars, C_Family, C_RingFamily, f3, f4, f5, f6, f7, f8, f9, f10, f11, f13, f14, f15, f17, f18, f19, f20, f21, f22, f23, f24, f25, f37, f38, f39, f40, f41, f42, f44, f46, f47, f48, f49, f50, f51, f52, f53, f55, f56, f57⟩ ⟨c_kin, c_size, c_number, c_thing, c_family, c_way, c_apart, c_mark, c_text, c_broken⟩) f32 _ := ⟨(ok_parked (P := l.prog) (w := w) (base := base) EO CA F32 d_Cars____init__ d_Cars__Family_refuse_other), b32, k32, PySem.W.mg_of X G a32⟩
  have d__law_asked : Def l.prog w K mg base "_law_asked" ["_law_word", "_law_some", "_law_thing"] 8 (sp__law_asked K ⟨C_Codes, C_Trees, C_Cars, C_Family, C_RingFamily, f3, f4, f5, f6, f7, f8, f9, f10, f11, f13, f14, f15, f17, f18, f19, f20, f21, f22, f23, f24, f25, f37, f38, f39, f40, f41, f42, f44, f46, f47, f48, f49, f50, f51, f52, f53, f55, f56, f57⟩ ⟨c_kin, c_size, c_number, c_thing, c_family, c_way, c_apart, c_mark, c_text, c_broken⟩) f33 _ := ⟨(ok__law_asked (P := l.prog) (w := w) (base := base) EO CA F33 d__law_kin d_Codes__Family_number_of d_Trees__Family_number_of d_Cars__Family_number_of d_Codes__Family_next_of d_Trees__Family_next_of d_Cars__Family_next_of d_code_to_tree d_code_to_cars d_tree_to_code d_tree_to_cars d_cars_to_code d_cars_to_tree d_parked), b33, k33, PySem.W.mg_of X G a33⟩
  have d__law_classes : Def l.prog w K mg base "_law_classes" ["_law_error"] 1 (sp__law_classes K ⟨C_Codes, C_Trees, C_Cars, C_Family, C_RingFamily, f3, f4, f5, f6, f7, f8, f9, f10, f11, f13, f14, f15, f17, f18, f19, f20, f21, f22, f23, f24, f25, f37, f38, f39, f40, f41, f42, f44, f46, f47, f48, f49, f50, f51, f52, f53, f55, f56, f57⟩ ⟨c_kin, c_size, c_number, c_thing, c_family, c_way, c_apart, c_mark, c_text, c_broken⟩) f34 _ := ⟨(ok__law_classes (P := l.prog) (w := w) (base := base) EO CA F34 m_isinstance m_ValueError).up, b34, k34, PySem.W.mg_of X G a34⟩
  have d__law_refused : Def l.prog w K mg base "_law_refused" ["_law_word", "_law_some", "_law_thing"] 9 (sp__law_refused K ⟨C_Codes, C_Trees, C_Cars, C_Family, C_RingFamily, f3, f4, f5, f6, f7, f8, f9, f10, f11, f13, f14, f15, f17, f18, f19, f20, f21, f22, f23, f24, f25, f37, f38, f39, f40, f41, f42, f44, f46, f47, f48, f49, f50, f51, f52, f53, f55, f56, f57⟩ ⟨c_kin, c_size, c_number, c_thing, c_family, c_way, c_apart, c_mark, c_text, c_broken⟩) f35 _ := ⟨(ok__law_refused (P := l.prog) (w := w) (base := base) EO CA F35 d__law_asked d__law_classes).up, b35, k35, PySem.W.mg_of X G a35⟩
  have d_ring_many : Def l.prog w K mg base "ring_many" ["size"] 1 (sp_ring_many K ⟨C_Codes, C_Trees, C_Cars, C_Family, C_RingFamily, f3, f4, f5, f6, f7, f8, f9, f10, f11, f13, f14, f15, f17, f18, f19, f20, f21, f22, f23, f24, f25, f37, f38, f39, f40, f41, f42, f44, f46, f47, f48, f49, f50, f51, f52, f53, f55, f56, f57⟩) f36 _ := ⟨(ok_ring_many (P := l.prog) (w := w) (base := base) EO CA F36).up, b36, k36, PySem.W.mg_of X G a36⟩
  have d_Cars__RingFamily_unchecked_many : MDef l.prog w K mg base ["self", "size"] 2 (sp_Cars__RingFamily_unchecked_many K ⟨C_Codes, C_Trees, C_Cars, C_Family, C_RingFamily, f3, f4, f5, f6, f7, f8, f9, f10, f11, f13, f14, f15, f17, f18, f19, f20, f21, f22, f23, f24, f25, f37, f38, f39, f40, f41, f42, f44, f46, f47, f48, f49, f50, f51, f52, f53, f55, f56, f57⟩) f37 _ := ⟨(ok_Cars__RingFamily_unchecked_many (P := l.prog) (w := w) (base := base) EO CA F37 d_ring_many).up, b37⟩
  have d_Cars__Family_many : MDef l.prog w K mg base ["self", "size"] 3 (sp_Cars__Family_many K ⟨C_Codes, C_Trees, C_Cars, C_Family, C_RingFamily, f3, f4, f5, f6, f7, f8, f9, f10, f11, f13, f14, f15, f17, f18, f19, f20, f21, f22, f23, f24, f25, f37, f38, f39, f40, f41, f42, f44, f46, f47, f48, f49, f50, f51, f52, f53, f55, f56, f57⟩ ⟨c_kin, c_size, c_number, c_thing, c_family, c_way, c_apart, c_mark, c_text, c_broken⟩) f38 _ := ⟨(ok_Cars__Family_many (P := l.prog) (w := w) (base := base) EO CA F38 d_Cars__RingFamily_unchecked_many g_GREATEST_SIZE), b38⟩
  have d_Trees__RingFamily_unchecked_many : MDef l.prog w K mg base ["self", "size"] 2 (sp_Trees__RingFamily_unchecked_many K ⟨C_Codes, C_Trees, C_Cars, C_Family, C_RingFamily, f3, f4, f5, f6, f7, f8, f9, f10, f11, f13, f14, f15, f17, f18, f19, f20, f21, f22, f23, f24, f25, f37, f38, f39, f40, f41, f42, f44, f46, f47, f48, f49, f50, f51, f52, f53, f55, f56, f57⟩) f39 _ := ⟨(ok_Trees__RingFamily_unchecked_many (P := l.prog) (w := w) (base := base) EO CA F39 d_ring_many).up, b39⟩
  have d_Trees__Family_many : MDef l.prog w K mg base ["self", "size"] 3 (sp_Trees__Family_many K ⟨C_Codes, C_Trees, C_Cars, C_Family, C_RingFamily, f3, f4, f5, f6, f7, f8, f9, f10, f11, f13, f14, f15, f17, f18, f19, f20, f21, f22, f23, f24, f25, f37, f38, f39, f40, f41, f42, f44, f46, f47, f48, f49, f50, f51, f52, f53, f55, f56, f57⟩ ⟨c_kin, c_size, c_number, c_thing, c_family, c_way, c_apart, c_mark, c_text, c_broken⟩) f40 _ := ⟨(ok_Trees__Family_many (P := l.prog) (w := w) (base := base) EO CA F40 d_Trees__RingFamily_unchecked_many g_GREATEST_SIZE), b40⟩
  have d_Codes__RingFamily_unchecked_many : MDef l.prog w K mg base ["self", "size"] 2 (sp_Codes__RingFamily_unchecked_many K ⟨C_Codes, C_Trees, C_Cars, C_Family, C_RingFamily, f3, f4, f5, f6, f7, f8, f9, f10, f11, f13, f14, f15, f17, f18, f19, f20, f21, f22, f23, f24, f25, f37, f38, f39, f40, f41, f42, f44, f46, f47, f48, f49, f50, f51, f52, f53, f55, f56, f57⟩) f41 _ := ⟨(ok_Codes__RingFamily_unchecked_many (P := l.prog) (w := w) (base := base) EO CA F41 d_ring_many).up, b41⟩
  have d_Codes__Family_many : MDef l.prog w K mg base ["self", "size"] 3 (sp_Codes__Family_many K ⟨C_Codes, C_Trees, C_Cars, C_Family, C_RingFamily, f3, f4, f5, f6, f7, f8, f9, f10, f11, f13, f14, f15, f17, f18, f19, f20, f21, f22, f23, f24, f25, f37, f38, f39, f40, f41, f42, f44, f46, f47, f48, f49, f50, f51, f52, f53, f55, f56, f57⟩ ⟨c_kin, c_size, c_number, c_thing, c_family, c_way, c_apart, c_mark, c_text, c_broken⟩) f42 _ := ⟨(ok_Codes__Family_many (P := l.prog) (w := w) (base := base) EO CA F42 d_Codes__RingFamily_unchecked_many g_GREATEST_SIZE), b42⟩
  have d__law_size_refused : Def l.prog w K mg base "_law_size_refused" ["_law_kin_here", "_law_size"] 4 (sp__law_size_refused K ⟨C_Codes, C_Trees, C_Cars, C_Family, C_RingFamily, f3, f4, f5, f6, f7, f8, f9, f10, f11, f13, f14, f15, f17, f18, f19, f20, f21, f22, f23, f24, f25, f37, f38, f39, f40, f41, f42, f44, f46, f47, f48, f49, f50, f51, f52, f53, f55, f56, f57⟩ ⟨c_kin, c_size, c_number, c_thing, c_family, c_way, c_apart, c_mark, c_text, c_broken⟩) f43 _ := ⟨(ok__law_size_refused (P := l.prog) (w := w) (base := base) EO CA F43 d_Cars__Family_many d_Trees__Family_many d_Codes__Family_many d__law_classes).up, b43, k43, PySem.W.mg_of X G a43⟩
  have d_Cars__of_code : MDef l.prog w K mg base ["self", "code"] 2 (sp_Cars__of_code K ⟨C_Codes, C_Trees, C_Cars, C_Family, C_RingFamily, f3, f4, f5, f6, f7, f8, f9, f10, f11, f13, f14, f15, f17, f18, f19, f20, f21, f22, f23, f24, f25, f37, f38, f39, f40, f41, f42, f44, f46, f47, f48, f49, f50, f51, f52, f53, f55, f56, f57⟩) f44 _ := ⟨(ok_Cars__of_code (P := l.prog) (w := w) (base := base) EO CA F44 d_Cars__is_one m_len).up, b44⟩
  have d_number_figures : Def l.prog w K mg base "number_figures" ["number", "base", "length"] 1 (sp_number_figures K ⟨C_Codes, C_Trees, C_Cars, C_Family, C_RingFamily, f3, f4, f5, f6, f7, f8, f9, f10, f11, f13, f14, f15, f17, f18, f19, f20, f21, f22, f23, f24, f25, f37, f38, f39, f40, f41, f42, f44, f46, f47, f48, f49, f50, f51, f52, f53, f55, f56, f57⟩) f45 _ := ⟨(ok_number_figures (P := l.prog) (w := w) (base := base) EO CA F45 m_range).up, b45, k45, PySem.W.mg_of X G a45⟩
  have d_Cars__RingFamily_unchecked_thing : MDef l.prog w K mg base ["self", "size", "number"] 3 (sp_Cars__RingFamily_unchecked_thing K ⟨C_Codes, C_Trees, C_Cars, C_Family, C_RingFamily, f3, f4, f5, f6, f7, f8, f9, f10, f11, f13, f14, f15, f17, f18, f19, f20, f21, f22, f23, f24, f25, f37, f38, f39, f40, f41, f42, f44, f46, f47, f48, f49, f50, f51, f52, f53, f55, f56, f57⟩) f46 _ := ⟨(ok_Cars__RingFamily_unchecked_thing (P := l.prog) (w := w) (base := base) EO CA F46 d_Cars__of_code d_number_figures).up, b46⟩
  have d_Cars__Family_thing_of : MDef l.prog w K mg base ["self", "size", "number"] 4 (sp_Cars__Family_thing_of K ⟨C_Codes, C_Trees, C_Cars, C_Family, C_RingFamily, f3, f4, f5, f6, f7, f8, f9, f10, f11, f13, f14, f15, f17, f18, f19, f20, f21, f22, f23, f24, f25, f37, f38, f39, f40, f41, f42, f44, f46, f47, f48, f49, f50, f51, f52, f53, f55, f56, f57⟩ ⟨c_kin, c_size, c_number, c_thing, c_family, c_way, c_apart, c_mark, c_text, c_broken⟩) f47 _ := ⟨(ok_Cars__Family_thing_of (P := l.prog) (w := w) (base := base) EO CA F47 d_Cars__Family_many d_Cars__RingFamily_unchecked_thing), b47⟩
  have d_Trees__of_code : MDef l.prog w K mg base ["self", "code"] 1 (sp_Trees__of_code K ⟨C_Codes, C_Trees, C_Cars, C_Family, C_RingFamily, f3, f4, f5, f6, f7, f8, f9, f10, f11, f13, f14, f15, f17, f18, f19, f20, f21, f22, f23, f24, f25, f37, f38, f39, f40, f41, f42, f44, f46, f47, f48, f49, f50, f51, f52, f53, f55, f56, f57⟩) f48 _ := ⟨(ok_Trees__of_code (P := l.prog) (w := w) (base := base) EO CA F48 m_list m_range m_len m_enumerate m_min).up, b48⟩
  have d_Trees__RingFamily_unchecked_thing : MDef l.prog w K mg base ["self", "size", "number"] 2 (sp_Trees__RingFamily_unchecked_thing K ⟨C_Codes, C_Trees, C_Cars, C_Family, C_RingFamily, f3, f4, f5, f6, f7, f8, f9, f10, f11, f13, f14, f15, f17, f18, f19, f20, f21, f22, f23, f24, f25, f37, f38, f39, f40, f41, f42, f44, f46, f47, f48, f49, f50, f51, f52, f53, f55, f56, f57⟩) f49 _ := ⟨(ok_Trees__RingFamily_unchecked_thing (P := l.prog) (w := w) (base := base) EO CA F49 d_Trees__of_code d_number_figures).up, b49⟩
  have d_Trees__Family_thing_of : MDef l.prog w K mg base ["self", "size", "number"] 4 (sp_Trees__Family_thing_of K ⟨C_Codes, C_Trees, C_Cars, C_Family, C_RingFamily, f3, f4, f5, f6, f7, f8, f9, f10, f11, f13, f14, f15, f17, f18, f19, f20, f21, f22, f23, f24, f25, f37, f38, f39, f40, f41, f42, f44, f46, f47, f48, f49, f50, f51, f52, f53, f55, f56, f57⟩ ⟨c_kin, c_size, c_number, c_thing, c_family, c_way, c_apart, c_mark, c_text, c_broken⟩) f50 _ := ⟨(ok_Trees__Family_thing_of (P := l.prog) (w := w) (base := base) EO CA F50 d_Trees__Family_many d_Trees__RingFamily_unchecked_thing), b50⟩
  have d_Codes__of_code : MDef l.prog w K mg base ["self", "code"] 1 (sp_Codes__of_code K ⟨C_Codes, C_Trees, C_Cars, C_Family, C_RingFamily, f3, f4, f5, f6, f7, f8, f9, f10, f11, f13, f14, f15, f17, f18, f19, f20, f21, f22, f23, f24, f25, f37, f38, f39, f40, f41, f42, f44, f46, f47, f48, f49, f50, f51, f52, f53, f55, f56, f57⟩) f51 _ := ⟨(ok_Codes__of_code (P := l.prog) (w := w) (base := base) EO CA F51 m_list).up, b51⟩
  have d_Codes__RingFamily_unchecked_thing : MDef l.prog w K mg base ["self", "size", "number"] 2 (sp_Codes__RingFamily_unchecked_thing K ⟨C_Codes, C_Trees, C_Cars, C_Family, C_RingFamily, f3, f4, f5, f6, f7, f8, f9, f10, f11, f13, f14, f15, f17, f18, f19, f20, f21, f22, f23, f24, f25, f37, f38, f39, f40, f41, f42, f44, f46, f47, f48, f49, f50, f51, f52, f53, f55, f56, f57⟩) f52 _ := ⟨(ok_Codes__RingFamily_unchecked_thing (P := l.prog) (w := w) (base := base) EO CA F52 d_Codes__of_code d_number_figures).up, b52⟩
  have d_Codes__Family_thing_of : MDef l.prog w K mg base ["self", "size", "number"] 4 (sp_Codes__Family_thing_of K ⟨C_Codes, C_Trees, C_Cars, C_Family, C_RingFamily, f3, f4, f5, f6, f7, f8, f9, f10, f11, f13, f14, f15, f17, f18, f19, f20, f21, f22, f23, f24, f25, f37, f38, f39, f40, f41, f42, f44, f46, f47, f48, f49, f50, f51, f52, f53, f55, f56, f57⟩ ⟨c_kin, c_size, c_number, c_thing, c_family, c_way, c_apart, c_mark, c_text, c_broken⟩) f53 _ := ⟨(ok_Codes__Family_thing_of (P := l.prog) (w := w) (base := base) EO CA F53 d_Codes__Family_many d_Codes__RingFamily_unchecked_thing), b53⟩
  have d__law_number_refused : Def l.prog w K mg base "_law_number_refused" ["_law_kin_here", "_law_size", "_law_number"] 5 (sp__law_number_refused K ⟨C_Codes, C_Trees, C_Cars, C_Family, C_RingFamily, f3, f4, f5, f6, f7, f8, f9, f10, f11, f13, f14, f15, f17, f18, f19, f20, f21, f22, f23, f24, f25, f37, f38, f39, f40, f41, f42, f44, f46, f47, f48, f49, f50, f51, f52, f53, f55, f56, f57⟩ ⟨c_kin, c_size, c_number, c_thing, c_family, c_way, c_apart, c_mark, c_text, c_broken⟩) f54 _ := ⟨(ok__law_number_refused (P := l.prog) (w := w) (base := base) EO CA F54 d_Cars__Family_thing_of d_Trees__Family_thing_of d_Codes__Family_thing_of d__law_classes).up, b54, k54, PySem.W.mg_of X G a54⟩
  have d_Codes__size_of : MDef l.prog w K mg base ["self", "thing"] 1 (sp_Codes__size_of K ⟨C_Codes, C_Trees, C_Cars, C_Family, C_RingFamily, f3, f4, f5, f6, f7, f8, f9, f10, f11, f13, f14, f15, f17, f18, f19, f20, f21, f22, f23, f24, f25, f37, f38, f39, f40, f41, f42, f44, f46, f47, f48, f49, f50, f51, f52, f53, f55, f56, f57⟩) f55 _ := ⟨(ok_Codes__size_of (P := l.prog) (w := w) (base := base) EO CA F55 m_len).up, b55⟩
  have d_Trees__size_of : MDef l.prog w K mg base ["self", "thing"] 1 (sp_Trees__size_of K ⟨C_Codes, C_Trees, C_Cars, C_Family, C_RingFamily, f3, f4, f5, f6, f7, f8, f9, f10, f11, f13, f14, f15, f17, f18, f19, f20, f21, f22, f23, f24, f25, f37, f38, f39, f40, f41, f42, f44, f46, f47, f48, f49, f50, f51, f52, f53, f55, f56, f57⟩) f56 _ := ⟨(ok_Trees__size_of (P := l.prog) (w := w) (base := base) EO CA F56 m_len).up, b56⟩
  have d_Cars__size_of : MDef l.prog w K mg base ["self", "thing"] 1 (sp_Cars__size_of K ⟨C_Codes, C_Trees, C_Cars, C_Family, C_RingFamily, f3, f4, f5, f6, f7, f8, f9, f10, f11, f13, f14, f15, f17, f18, f19, f20, f21, f22, f23, f24, f25, f37, f38, f39, f40, f41, f42, f44, f46, f47, f48, f49, f50, f51, f52, f53, f55, f56, f57⟩) f57 _ := ⟨(ok_Cars__size_of (P := l.prog) (w := w) (base := base) EO CA F57 m_len).up, b57⟩
  exact ok_law (P := l.prog) (w := w) (base := base) EO CA F58 d__law_cell_at d__law_amiss d__law_refused d__law_kin d__law_size_refused d__law_number_refused d_Codes__Family_thing_of d_Trees__Family_thing_of d_Cars__Family_thing_of d_Codes__size_of d_Trees__size_of d_Cars__size_of d_Codes__is_one d_Trees__is_one d_Cars__is_one m_min m_list m_range m_int m_isinstance

theorem walk {l : PySem.W.OpenLaw} {q : Program} {loose : List Str} {XP : (Str → Option Value) → Heap → Prop} {YP : World → Heap → Prop} {d : DefRec} {K : Params → PySem.W.Frag} (hn : l.most = some 63) (hdf : d.params.defaults = [])
    (hY : ∀ (w : World) (h : Heap), YP w h → (K w.params).In h)
    (F : ∀ (w : World) (mg : Str → Option Value) (fa : Addr) (h : Heap), (K w.params).In h → h.Ns mainGlobals mg → mg d.name = some (.ref fa) →
      ∃ fd : FuncData, (∀ (s : Shared) (u : Value), BindsTo s fd ⟨[u], []⟩ [("_law_script", u)]) ∧ ∀ base : Heap, (K w.params).In base → base.Ns mainGlobals mg → FnOk l.prog w (K w.params) mg base CX0 10 fa fd ["_law_script"] (spL (K w.params))) :
    PySem.W.WalkO q loose XP YP l.row.toRowW d [] (fun f vs => PySem.call f vs) :=
  L2.walk_of (n := 63) (k := 10) (x := "_law_script") (CX := fun _ => CX0) (sp := fun w => spL (K w.params)) hn (by decide) hdf ⟨rfl, by decide, by decide⟩ hY F (fun _ _ a ns hl _ hS => ⟨a, ns, rfl, hS, hl, fun _ => rfl⟩) fun _ _ _ _ _ z => z
end Ck
open L2
namespace Ck
open PySem PySem.W PySem.Calls PyProof.Rows
noncomputable def hB : List Stmt := behindTheImports PySem.Challenge.pw_countkin_k39_rings_refuse
noncomputable def hE : Env := { scope := PySem.Challenge.pw_countkin_k39_rings_refuse.main.scope, locals := mainNs, globals := mainNs, cells := [], code := (.ref 13), frame := some 14 }
noncomputable def hC : Code := .body hB hE
noncomputable def hTree (P : Params) : BT := (.node (boot_o_0 P) (.node (boot_o_1 P) (.node (boot_o_3 P) (.node (boot_o_7 P) .nil .nil) (.node ⟨(.type "tuple"), none, (.seq #[] 0), #[]⟩ .nil .nil)) (.node (boot_o_5 P) (.node (boot_o_9 P) .nil .nil) (.node ⟨(.type "code"), none, (.fields #[(.str "<module>" 182), (.str "<module>" 183), (.str "/claim/cut.py" 184), (.int 1 0), (.int 0 0), (.int 0 0), (.int 0 0), (.int 0 0), (.ref 11), (.bool false), (.int 181 0), (.ref 12), .none, .none, .none, .none, (.int 185 0), (.int 1 0), (.str "/claim/cut.py" 186)]), #[]⟩ .nil .nil))) (.node (boot_o_2 P) (.node (boot_o_4 P) (.node (boot_o_8 P) .nil .nil) (.node ⟨.none, none, (.fields #[]), #[]⟩ .nil .nil)) (.node (boot_o_6 P) (.node (boot_o_10 P) .nil .nil) (.node ⟨(.type "frame"), none, .plain, #[(some (.ref 13)), (some (.ref 3)), (some (.ref 3)), none, (some (.str "__main__" 164)), none, (some (.ref 0))]⟩ .nil .nil))))
noncomputable def hS (w : World) (os : OsState) : SharedT := ⟨hTree w.params, 15, ({} : Life), Array.mk [], ⟨0, 0, 0, 0⟩, 187, os⟩
noncomputable def hQ : Program := { PySem.Challenge.pw_countkin_k39_rings_refuse with main := { PySem.Challenge.pw_countkin_k39_rings_refuse.main with body := [top 44] } }
noncomputable def hL : List Str := (Str.ofString "GREATEST_SIZE" :: Str.ofString "ring_many" :: Str.ofString "KinError" :: Str.ofString "NoSize" :: Str.ofString "NoNumber" :: Str.ofString "NoThing" :: Str.ofString "NoFamily" :: Str.ofString "NoWay" :: Str.ofString "Apart" :: Str.ofString "NoMark" :: Str.ofString "NoText" :: Str.ofString "Broken" :: Str.ofString "Family" :: Str.ofString "RingFamily" :: Str.ofString "figures_number" :: Str.ofString "number_figures" :: Str.ofString "Codes" :: Str.ofString "Cars" :: Str.ofString "parked" :: Str.ofString "cars_to_code" :: Str.ofString "code_to_cars" :: Str.ofString "Trees" :: Str.ofString "comes_to_0" :: Str.ofString "tree_to_code" :: Str.ofString "code_to_tree" :: Str.ofString "knots_with" :: Str.ofString "tree_to_cars" :: Str.ofString "cars_to_tree" :: Str.ofString "_law_cell_at" :: Str.ofString "_law_kin" :: Str.ofString "_law_classes" :: Str.ofString "_law_asked" :: Str.ofString "_law_refused" :: Str.ofString "_law_size_refused" :: Str.ofString "_law_number_refused" :: Str.ofString "_law_amiss" :: [])
noncomputable def hK : Params → Frag := fun P => (nat_lit 2, ⟨.none, none, (.dict #[] 0), #[]⟩) :: (nat_lit 3, ⟨(.type "dict"), none, (.dict (List.toArray (⟨PyData.keyHash P "__name__", .str "__name__" 165, (.str "law_countkin_k39_rings_refuse" 803)⟩ :: ⟨PyData.keyHash P "__doc__", .str "__doc__" 166, .none⟩ :: ⟨PyData.keyHash P "__package__", .str "__package__" 167, .none⟩ :: ⟨PyData.keyHash P "__loader__", .str "__loader__" 168, (.builtin "__main__.__loader__#opaque")⟩ :: ⟨PyData.keyHash P "__spec__", .str "__spec__" 169, .none⟩ :: ⟨PyData.keyHash P "__annotations__", .str "__annotations__" 170, (.ref 6)⟩ :: ⟨PyData.keyHash P "__builtins__", .str "__builtins__" 171, (.ref 4)⟩ :: ⟨PyData.keyHash P "__file__", .str "__file__" 173, (.str "/claim/cut.py" 172)⟩ :: ⟨PyData.keyHash P "__cached__", .str "__cached__" 174, .none⟩ :: ⟨PyData.keyHash P "GREATEST_SIZE", .str "GREATEST_SIZE" 190, (.int 40 189)⟩ :: ⟨PyData.keyHash P "ring_many", .str "ring_many" 199, (.ref 21)⟩ :: ⟨PyData.keyHash P "KinError", .str "KinError" 219, (.ref 31)⟩ :: ⟨PyData.keyHash P "NoSize", .str "NoSize" 235, (.ref 44)⟩ :: ⟨PyData.keyHash P "NoNumber", .str "NoNumber" 251, (.ref 56)⟩ :: ⟨PyData.keyHash P "NoThing", .str "NoThing" 267, (.ref 68)⟩ :: ⟨PyData.keyHash P "NoFamily", .str "NoFamily" 283, (.ref 80)⟩ :: ⟨PyData.keyHash P "NoWay", .str "NoWay" 299, (.ref 92)⟩ :: ⟨PyData.keyHash P "Apart", .str "Apart" 315, (.ref 104)⟩ :: ⟨PyData.keyHash P "NoMark", .str "NoMark" 331, (.ref 116)⟩ :: ⟨PyData.keyHash P "NoText", .str "NoText" 347, (.ref 128)⟩ :: ⟨PyData.keyHash P "Broken", .str "Broken" 372, (.ref 147)⟩ :: ⟨PyData.keyHash P "Family", .str "Family" 490, (.ref 236)⟩ :: ⟨PyData.keyHash P "RingFamily", .str "RingFamily" 557, (.ref 292)⟩ :: ⟨PyData.keyHash P "figures_number", .str "figures_number" 567, (.ref 301)⟩ :: ⟨PyData.keyHash P "number_figures", .str "number_figures" 579, (.ref 308)⟩ :: ⟨PyData.keyHash P "Codes", .str "Codes" 632, (.ref 351)⟩ :: ⟨PyData.keyHash P "Cars", .str "Cars" 683, (.ref 392)⟩ :: ⟨PyData.keyHash P "parked", .str "parked" 693, (.ref 401)⟩ :: ⟨PyData.keyHash P "cars_to_code", .str "cars_to_code" 700, (.ref 408)⟩ :: ⟨PyData.keyHash P "code_to_cars", .str "code_to_cars" 707, (.ref 415)⟩ :: ⟨PyData.keyHash P "Trees", .str "Trees" 758, (.ref 454)⟩ :: ⟨PyData.keyHash P "comes_to_0", .str "comes_to_0" 768, (.ref 463)⟩ :: ⟨PyData.keyHash P "tree_to_code", .str "tree_to_code" 775, (.ref 470)⟩ :: ⟨PyData.keyHash P "code_to_tree", .str "code_to_tree" 782, (.ref 477)⟩ :: ⟨PyData.keyHash P "knots_with", .str "knots_with" 790, (.ref 482)⟩ :: ⟨PyData.keyHash P "tree_to_cars", .str "tree_to_cars" 796, (.ref 487)⟩ :: ⟨PyData.keyHash P "cars_to_tree", .str "cars_to_tree" 802, (.ref 492)⟩ :: ⟨PyData.keyHash P "_law_cell_at", .str "_law_cell_at" 812, (.ref 499)⟩ :: ⟨PyData.keyHash P "_law_kin", .str "_law_kin" 819, (.ref 506)⟩ :: ⟨PyData.keyHash P "_law_classes", .str "_law_classes" 827, (.ref 513)⟩ :: ⟨PyData.keyHash P "_law_asked", .str "_law_asked" 836, (.ref 520)⟩ :: ⟨PyData.keyHash P "_law_refused", .str "_law_refused" 847, (.ref 527)⟩ :: ⟨PyData.keyHash P "_law_size_refused", .str "_law_size_refused" 857, (.ref 534)⟩ :: ⟨PyData.keyHash P "_law_number_refused", .str "_law_number_refused" 868, (.ref 541)⟩ :: ⟨PyData.keyHash P "_law_amiss", .str "_law_amiss" 880, (.ref 548)⟩ :: ⟨PyData.keyHash P "law", .str "law" 898, (.ref 555)⟩ :: [])) 46), #[]⟩) :: (nat_lit 15, ⟨(.type "tuple"), none, (.seq #[] 0), #[]⟩) :: (nat_lit 17, ⟨(.type "tuple"), none, (.seq #[(.str "size" 194), (.str "product" 195), (.str "factor" 196)] 0), #[]⟩) :: (nat_lit 18, ⟨(.type "tuple"), none, (.seq #[] 0), #[]⟩) :: (nat_lit 20, ⟨(.type "code"), none, (.fields #[(.str "ring_many" 191), (.str "ring_many" 192), (.str "/claim/cut.py" 193), (.int 3 0), (.int 1 0), (.int 0 0), (.int 0 0), (.int 3 0), (.ref 15), (.bool true), (.int 181 0), (.ref 16), .none, (.ref 17), (.ref 18), (.ref 19), (.int 197 0), (.int 3 0), (.str "/claim/cut.py" 198)]), #[]⟩) :: (nat_lit 21, ⟨(.type "function"), none, (.func (fnOf "ring_many" "ring_many" (defArgs (top 2)) (defBody (top 2)) (defScope (top 2)) .none .none .none (.str "countkin.counts" 187) none (.ref 20) .none)), #[]⟩) :: (nat_lit 22, ⟨(.type "tuple"), none, (.seq #[(.type "ValueError")] 0), #[]⟩) :: (nat_lit 29, ⟨(.type "tuple"), none, (.seq #[] 0), #[]⟩) :: (nat_lit 30, ⟨(.type "dict"), none, (.dict #[⟨PyData.keyHash P "__module__", .str "__module__" 209, (.str "countkin.errors" 200)⟩, ⟨PyData.keyHash P "__firstlineno__", .str "__firstlineno__" 213, (.int 9 212)⟩, ⟨PyData.keyHash P "__static_attributes__", .str "__static_attributes__" 214, (.ref 29)⟩, ⟨PyData.keyHash P "__weakref__", .str "__weakref__" 216, (.ref 32)⟩, ⟨PyData.keyHash P "__doc__", .str "__doc__" 217, .none⟩] 3), #[]⟩) :: (nat_lit 31, ⟨(.type "type"), none, (.cls ⟨"KinError", [(.type "ValueError")], [(.ref 31), (.type "ValueError"), (.type "Exception"), (.type "BaseException"), (.type "object")], 30, "KinError", true, [], [(.ref 44), (.ref 56), (.ref 68), (.ref 80), (.ref 92), (.ref 104), (.ref 116), (.ref 128), (.ref 147)], false, none, false⟩), #[(some (.ref 22)), none, (some (.str "KinError" 202)), (some (.str "KinError" 210)), (some (.builtin "ValueError.__new__")), (some (.bool true))]⟩) :: (nat_lit 32, ⟨(.type "getset_descriptor"), none, (.fields #[(.str "__weakref__" 215), (.ref 31), (.builtin "ExceptionGroup.__weakref__"), .none]), #[]⟩) :: (nat_lit 35, ⟨(.type "tuple"), none, (.seq #[(.ref 31)] 0), #[]⟩) :: (nat_lit 42, ⟨(.type "tuple"), none, (.seq #[] 0), #[]⟩) :: (nat_lit 43, ⟨(.type "dict"), none, (.dict #[⟨PyData.keyHash P "__module__", .str "__module__" 227, (.str "countkin.errors" 200)⟩, ⟨PyData.keyHash P "__firstlineno__", .str "__firstlineno__" 231, (.int 11 230)⟩, ⟨PyData.keyHash P "__static_attributes__", .str "__static_attributes__" 232, (.ref 42)⟩, ⟨PyData.keyHash P "__doc__", .str "__doc__" 233, .none⟩] 2), #[]⟩) :: (nat_lit 44, ⟨(.type "type"), none, (.cls ⟨"NoSize", [(.ref 31)], [(.ref 44), (.ref 31), (.type "ValueError"), (.type "Exception"), (.type "BaseException"), (.type "object")], 43, "NoSize", true, [], [], false, none, false⟩), #[(some (.ref 35)), none, (some (.str "NoSize" 220)), (some (.str "NoSize" 228)), (some (.builtin "ValueError.__new__")), (some (.bool true))]⟩) :: (nat_lit 47, ⟨(.type "tuple"), none, (.seq #[(.ref 31)] 0), #[]⟩) :: (nat_lit 54, ⟨(.type "tuple"), none, (.seq #[] 0), #[]⟩) :: (nat_lit 55, ⟨(.type "dict"), none, (.dict #[⟨PyData.keyHash P "__module__", .str "__module__" 243, (.str "countkin.errors" 200)⟩, ⟨PyData.keyHash P "__firstlineno__", .str "__firstlineno__" 247, (.int 13 246)⟩, ⟨PyData.keyHash P "__static_attributes__", .str "__static_attributes__" 248, (.ref 54)⟩, ⟨PyData.keyHash P "__doc__", .str "__doc__" 249, .none⟩] 2), #[]⟩) :: (nat_lit 56, ⟨(.type "type"), none, (.cls ⟨"NoNumber", [(.ref 31)], [(.ref 56), (.ref 31), (.type "ValueError"), (.type "Exception"), (.type "BaseException"), (.type "object")], 55, "NoNumber", true, [], [], false, none, false⟩), #[(some (.ref 47)), none, (some (.str "NoNumber" 236)), (some (.str "NoNumber" 244)), (some (.builtin "ValueError.__new__")), (some (.bool true))]⟩) :: (nat_lit 59, ⟨(.type "tuple"), none, (.seq #[(.ref 31)] 0), #[]⟩) :: (nat_lit 66, ⟨(.type "tuple"), none, (.seq #[] 0), #[]⟩) :: (nat_lit 67, ⟨(.type "dict"), none, (.dict #[⟨PyData.keyHash P "__module__", .str "__module__" 259, (.str "countkin.errors" 200)⟩, ⟨PyData.keyHash P "__firstlineno__", .str "__firstlineno__" 263, (.int 15 262)⟩, ⟨PyData.keyHash P "__static_attributes__", .str "__static_attributes__" 264, (.ref 66)⟩, ⟨PyData.keyHash P "__doc__", .str "__doc__" 265, .none⟩] 2), #[]⟩) :: (nat_lit 68, ⟨(.type "type"), none, (.cls ⟨"NoThing", [(.ref 31)], [(.ref 68), (.ref 31), (.type "ValueError"), (.type "Exception"), (.type "BaseException"), (.type "object")], 67, "NoThing", true, [], [], false, none, false⟩), #[(some (.ref 59)), none, (some (.str "NoThing" 252)), (some (.str "NoThing" 260)), (some (.builtin "ValueError.__new__")), (some (.bool true))]⟩) :: (nat_lit 71, ⟨(.type "tuple"), none, (.seq #[(.ref 31)] 0), #[]⟩) :: (nat_lit 78, ⟨(.type "tuple"), none, (.seq #[] 0), #[]⟩) :: (nat_lit 79, ⟨(.type "dict"), none, (.dict #[⟨PyData.keyHash P "__module__", .str "__module__" 275, (.str "countkin.errors" 200)⟩, ⟨PyData.keyHash P "__firstlineno__", .str "__firstlineno__" 279, (.int 17 278)⟩, ⟨PyData.keyHash P "__static_attributes__", .str "__static_attributes__" 280, (.ref 78)⟩, ⟨PyData.keyHash P "__doc__", .str "__doc__" 281, .none⟩] 2), #[]⟩) :: (nat_lit 80, ⟨(.type "type"), none, (.cls ⟨"NoFamily", [(.ref 31)], [(.ref 80), (.ref 31), (.type "ValueError"), (.type "Exception"), (.type "BaseException"), (.type "object")], 79, "NoFamily", true, [], [], false, none, false⟩), #[(some (.ref 71)), none, (some (.str "NoFamily" 268)), (some (.str "NoFamily" 276)), (some (.builtin "ValueError.__new__")), (some (.bool true))]⟩) :: (nat_lit 83, ⟨(.type "tuple"), none, (.seq #[(.ref 31)] 0), #[]⟩) :: (nat_lit 90, ⟨(.type "tuple"), none, (.seq #[] 0), #[]⟩) :: (nat_lit 91, ⟨(.type "dict"), none, (.dict #[⟨PyData.keyHash P "__module__", .str "__module__" 291, (.str "countkin.errors" 200)⟩, ⟨PyData.keyHash P "__firstlineno__", .str "__firstlineno__" 295, (.int 19 294)⟩, ⟨PyData.keyHash P "__static_attributes__", .str "__static_attributes__" 296, (.ref 90)⟩, ⟨PyData.keyHash P "__doc__", .str "__doc__" 297, .none⟩] 2), #[]⟩) :: (nat_lit 92, ⟨(.type "type"), none, (.cls ⟨"NoWay", [(.ref 31)], [(.ref 92), (.ref 31), (.type "ValueError"), (.type "Exception"), (.type "BaseException"), (.type "object")], 91, "NoWay", true, [], [], false, none, false⟩), #[(some (.ref 83)), none, (some (.str "NoWay" 284)), (some (.str "NoWay" 292)), (some (.builtin "ValueError.__new__")), (some (.bool true))]⟩) :: (nat_lit 95, ⟨(.type "tuple"), none, (.seq #[(.ref 31)] 0), #[]⟩) :: (nat_lit 102, ⟨(.type "tuple"), none, (.seq #[] 0), #[]⟩) :: (nat_lit 103, ⟨(.type "dict"), none, (.dict #[⟨PyData.keyHash P "__module__", .str "__module__" 307, (.str "countkin.errors" 200)⟩, ⟨PyData.keyHash P "__firstlineno__", .str "__firstlineno__" 311, (.int 21 310)⟩, ⟨PyData.keyHash P "__static_attributes__", .str "__static_attributes__" 312, (.ref 102)⟩, ⟨PyData.keyHash P "__doc__", .str "__doc__" 313, .none⟩] 2), #[]⟩) :: (nat_lit 104, ⟨(.type "type"), none, (.cls ⟨"Apart", [(.ref 31)], [(.ref 104), (.ref 31), (.type "ValueError"), (.type "Exception"), (.type "BaseException"), (.type "object")], 103, "Apart", true, [], [], false, none, false⟩), #[(some (.ref 95)), none, (some (.str "Apart" 300)), (some (.str "Apart" 308)), (some (.builtin "ValueError.__new__")), (some (.bool true))]⟩) :: (nat_lit 107, ⟨(.type "tuple"), none, (.seq #[(.ref 31)] 0), #[]⟩) :: (nat_lit 114, ⟨(.type "tuple"), none, (.seq #[] 0), #[]⟩) :: (nat_lit 115, ⟨(.type "dict"), none, (.dict #[⟨PyData.keyHash P "__module__", .str "__module__" 323, (.str "countkin.errors" 200)⟩, ⟨PyData.keyHash P "__firstlineno__", .str "__firstlineno__" 327, (.int 23 326)⟩, ⟨PyData.keyHash P "__static_attributes__", .str "__static_attributes__" 328, (.ref 114)⟩, ⟨PyData.keyHash P "__doc__", .str "__doc__" 329, .none⟩] 2), #[]⟩) :: (nat_lit 116, ⟨(.type "type"), none, (.cls ⟨"NoMark", [(.ref 31)], [(.ref 116), (.ref 31), (.type "ValueError"), (.type "Exception"), (.type "BaseException"), (.type "object")], 115, "NoMark", true, [], [], false, none, false⟩), #[(some (.ref 107)), none, (some (.str "NoMark" 316)), (some (.str "NoMark" 324)), (some (.builtin "ValueError.__new__")), (some (.bool true))]⟩) :: (nat_lit 119, ⟨(.type "tuple"), none, (.seq #[(.ref 31)] 0), #[]⟩) :: (nat_lit 126, ⟨(.type "tuple"), none, (.seq #[] 0), #[]⟩) :: (nat_lit 127, ⟨(.type "dict"), none, (.dict #[⟨PyData.keyHash P "__module__", .str "__module__" 339, (.str "countkin.errors" 200)⟩, ⟨PyData.keyHash P "__firstlineno__", .str "__firstlineno__" 343, (.int 25 342)⟩, ⟨PyData.keyHash P "__static_attributes__", .str "__static_attributes__" 344, (.ref 126)⟩, ⟨PyData.keyHash P "__doc__", .str "__doc__" 345, .none⟩] 2), #[]⟩) :: (nat_lit 128, ⟨(.type "type"), none, (.cls ⟨"NoText", [(.ref 31)], [(.ref 128), (.ref 31), (.type "ValueError"), (.type "Exception"), (.type "BaseException"), (.type "object")], 127, "NoText", true, [], [], false, none, false⟩), #[(some (.ref 119)), none, (some (.str "NoText" 332)), (some (.str "NoText" 340)), (some (.builtin "ValueError.__new__")), (some (.bool true))]⟩) :: (nat_lit 131, ⟨(.type "tuple"), none, (.seq #[(.ref 31)] 0), #[]⟩) :: (nat_lit 138, ⟨(.type "tuple"), none, (.seq #[] 0), #[]⟩) :: (nat_lit 140, ⟨(.type "tuple"), none, (.seq #[(.str "self" 363), (.str "place" 364)] 0), #[]⟩) :: (nat_lit 141, ⟨(.type "tuple"), none, (.seq #[] 0), #[]⟩) :: (nat_lit 143, ⟨(.type "code"), none, (.fields #[(.str "__init__" 360), (.str "Broken.__init__" 361), (.str "/claim/cut.py" 362), (.int 29 0), (.int 2 0), (.int 0 0), (.int 0 0), (.int 3 0), (.ref 138), (.bool true), (.int 181 0), (.ref 139), .none, (.ref 140), (.ref 141), (.ref 142), (.int 365 0), (.int 29 0), (.str "/claim/cut.py" 366)]), #[]⟩) :: (nat_lit 144, ⟨(.type "function"), none, (.func (fnOf "__init__" "Broken.__init__" (defArgs (inClass (top 13) 0)) (defBody (inClass (top 13) 0)) (defScope (inClass (top 13) 0)) .none .none .none (.str "countkin.errors" 200) none (.ref 143) .none)), #[]⟩) :: (nat_lit 145, ⟨(.type "tuple"), none, (.seq #[(.str "place" 368)] 0), #[]⟩) :: (nat_lit 146, ⟨(.type "dict"), none, (.dict #[⟨PyData.keyHash P "__module__", .str "__module__" 355, (.str "countkin.errors" 200)⟩, ⟨PyData.keyHash P "__firstlineno__", .str "__firstlineno__" 359, (.int 27 358)⟩, ⟨PyData.keyHash P "__init__", .str "__init__" 367, (.ref 144)⟩, ⟨PyData.keyHash P "__static_attributes__", .str "__static_attributes__" 369, (.ref 145)⟩, ⟨PyData.keyHash P "__doc__", .str "__doc__" 370, .none⟩] 2), #[]⟩) :: (nat_lit 147, ⟨(.type "type"), none, (.cls ⟨"Broken", [(.ref 31)], [(.ref 147), (.ref 31), (.type "ValueError"), (.type "Exception"), (.type "BaseException"), (.type "object")], 146, "Broken", true, [], [], false, none, false⟩), #[(some (.ref 131)), none, (some (.str "Broken" 348)), (some (.str "Broken" 356)), (some (.builtin "ValueError.__new__")), (some (.bool true))]⟩) :: (nat_lit 157, ⟨(.type "tuple"), none, (.seq #[] 0), #[]⟩) :: (nat_lit 159, ⟨(.type "tuple"), none, (.seq #[(.str "self" 390), (.str "word" 391), (.str "least" 392)] 0), #[]⟩) :: (nat_lit 160, ⟨(.type "tuple"), none, (.seq #[] 0), #[]⟩) :: (nat_lit 162, ⟨(.type "code"), none, (.fields #[(.str "__init__" 387), (.str "Family.__init__" 388), (.str "/claim/cut.py" 389), (.int 35 0), (.int 3 0), (.int 0 0), (.int 0 0), (.int 3 0), (.ref 157), (.bool true), (.int 181 0), (.ref 158), .none, (.ref 159), (.ref 160), (.ref 161), (.int 393 0), (.int 35 0), (.str "/claim/cut.py" 394)]), #[]⟩) :: (nat_lit 163, ⟨(.type "function"), none, (.func (fnOf "__init__" "Family.__init__" (defArgs (inClass (top 15) 0)) (defBody (inClass (top 15) 0)) (defScope (inClass (top 15) 0)) .none .none .none (.str "countkin.kin" 373) none (.ref 162) .none)), #[]⟩) :: (nat_lit 164, ⟨(.type "tuple"), none, (.seq #[] 0), #[]⟩) :: (nat_lit 166, ⟨(.type "tuple"), none, (.seq #[(.str "self" 399), (.str "thing" 400)] 0), #[]⟩) :: (nat_lit 167, ⟨(.type "tuple"), none, (.seq #[] 0), #[]⟩) :: (nat_lit 169, ⟨(.type "code"), none, (.fields #[(.str "size_of" 396), (.str "Family.size_of" 397), (.str "/claim/cut.py" 398), (.int 39 0), (.int 2 0), (.int 0 0), (.int 0 0), (.int 3 0), (.ref 164), (.bool true), (.int 181 0), (.ref 165), .none, (.ref 166), (.ref 167), (.ref 168), (.int 401 0), (.int 39 0), (.str "/claim/cut.py" 402)]), #[]⟩) :: (nat_lit 170, ⟨(.type "function"), none, (.func (fnOf "size_of" "Family.size_of" (defArgs (inClass (top 15) 1)) (defBody (inClass (top 15) 1)) (defScope (inClass (top 15) 1)) .none .none .none (.str "countkin.kin" 373) none (.ref 169) .none)), #[]⟩) :: (nat_lit 171, ⟨(.type "tuple"), none, (.seq #[] 0), #[]⟩) :: (nat_lit 173, ⟨(.type "tuple"), none, (.seq #[(.str "self" 407), (.str "thing" 408)] 0), #[]⟩) :: (nat_lit 174, ⟨(.type "tuple"), none, (.seq #[] 0), #[]⟩) :: (nat_lit 176, ⟨(.type "code"), none, (.fields #[(.str "is_one" 404), (.str "Family.is_one" 405), (.str "/claim/cut.py" 406), (.int 42 0), (.int 2 0), (.int 0 0), (.int 0 0), (.int 3 0), (.ref 171), (.bool true), (.int 181 0), (.ref 172), .none, (.ref 173), (.ref 174), (.ref 175), (.int 409 0), (.int 42 0), (.str "/claim/cut.py" 410)]), #[]⟩) :: (nat_lit 177, ⟨(.type "function"), none, (.func (fnOf "is_one" "Family.is_one" (defArgs (inClass (top 15) 2)) (defBody (inClass (top 15) 2)) (defScope (inClass (top 15) 2)) .none .none .none (.str "countkin.kin" 373) none (.ref 176) .none)), #[]⟩) :: (nat_lit 178, ⟨(.type "tuple"), none, (.seq #[] 0), #[]⟩) :: (nat_lit 180, ⟨(.type "tuple"), none, (.seq #[(.str "self" 415), (.str "size" 416)] 0), #[]⟩) :: (nat_lit 181, ⟨(.type "tuple"), none, (.seq #[] 0), #[]⟩) :: (nat_lit 183, ⟨(.type "code"), none, (.fields #[(.str "unchecked_many" 412), (.str "Family.unchecked_many" 413), (.str "/claim/cut.py" 414), (.int 45 0), (.int 2 0), (.int 0 0), (.int 0 0), (.int 3 0), (.ref 178), (.bool true), (.int 181 0), (.ref 179), .none, (.ref 180), (.ref 181), (.ref 182), (.int 417 0), (.int 45 0), (.str "/claim/cut.py" 418)]), #[]⟩) :: (nat_lit 184, ⟨(.type "function"), none, (.func (fnOf "unchecked_many" "Family.unchecked_many" (defArgs (inClass (top 15) 3)) (defBody (inClass (top 15) 3)) (defScope (inClass (top 15) 3)) .none .none .none (.str "countkin.kin" 373) none (.ref 183) .none)), #[]⟩) :: (nat_lit 185, ⟨(.type "tuple"), none, (.seq #[] 0), #[]⟩) :: (nat_lit 187, ⟨(.type "tuple"), none, (.seq #[(.str "self" 423), (.str "thing" 424)] 0), #[]⟩) :: (nat_lit 188, ⟨(.type "tuple"), none, (.seq #[] 0), #[]⟩) :: (nat_lit 190, ⟨(.type "code"), none, (.fields #[(.str "unchecked_number" 420), (.str "Family.unchecked_number" 421), (.str "/claim/cut.py" 422), (.int 48 0), (.int 2 0), (.int 0 0), (.int 0 0), (.int 3 0), (.ref 185), (.bool true), (.int 181 0), (.ref 186), .none, (.ref 187), (.ref 188), (.ref 189), (.int 425 0), (.int 48 0), (.str "/claim/cut.py" 426)]), #[]⟩) :: (nat_lit 191, ⟨(.type "function"), none, (.func (fnOf "unchecked_number" "Family.unchecked_number" (defArgs (inClass (top 15) 4)) (defBody (inClass (top 15) 4)) (defScope (inClass (top 15) 4)) .none .none .none (.str "countkin.kin" 373) none (.ref 190) .none)), #[]⟩) :: (nat_lit 192, ⟨(.type "tuple"), none, (.seq #[] 0), #[]⟩) :: (nat_lit 194, ⟨(.type "tuple"), none, (.seq #[(.str "self" 431), (.str "size" 432), (.str "number" 433)] 0), #[]⟩) :: (nat_lit 195, ⟨(.type "tuple"), none, (.seq #[] 0), #[]⟩) :: (nat_lit 197, ⟨(.type "code"), none, (.fields #[(.str "unchecked_thing" 428), (.str "Family.unchecked_thing" 429), (.str "/claim/cut.py" 430), (.int 51 0), (.int 3 0), (.int 0 0), (.int 0 0), (.int 3 0), (.ref 192), (.bool true), (.int 181 0), (.ref 193), .none, (.ref 194), (.ref 195), (.ref 196), (.int 434 0), (.int 51 0), (.str "/claim/cut.py" 435)]), #[]⟩) :: (nat_lit 198, ⟨(.type "function"), none, (.func (fnOf "unchecked_thing" "Family.unchecked_thing" (defArgs (inClass (top 15) 5)) (defBody (inClass (top 15) 5)) (defScope (inClass (top 15) 5)) .none .none .none (.str "countkin.kin" 373) none (.ref 197) .none)), #[]⟩) :: (nat_lit 199, ⟨(.type "tuple"), none, (.seq #[] 0), #[]⟩) :: (nat_lit 201, ⟨(.type "tuple"), none, (.seq #[(.str "self" 440), (.str "size" 441)] 0), #[]⟩) :: (nat_lit 202, ⟨(.type "tuple"), none, (.seq #[] 0), #[]⟩) :: (nat_lit 204, ⟨(.type "code"), none, (.fields #[(.str "many" 437), (.str "Family.many" 438), (.str "/claim/cut.py" 439), (.int 54 0), (.int 2 0), (.int 0 0), (.int 0 0), (.int 3 0), (.ref 199), (.bool true), (.int 181 0), (.ref 200), .none, (.ref 201), (.ref 202), (.ref 203), (.int 442 0), (.int 54 0), (.str "/claim/cut.py" 443)]), #[]⟩) :: (nat_lit 205, ⟨(.type "function"), none, (.func (fnOf "many" "Family.many" (defArgs (inClass (top 15) 6)) (defBody (inClass (top 15) 6)) (defScope (inClass (top 15) 6)) .none .none .none (.str "countkin.kin" 373) none (.ref 204) .none)), #[]⟩) :: (nat_lit 206, ⟨(.type "tuple"), none, (.seq #[] 0), #[]⟩) :: (nat_lit 208, ⟨(.type "tuple"), none, (.seq #[(.str "self" 448), (.str "thing" 449)] 0), #[]⟩) :: (nat_lit 209, ⟨(.type "tuple"), none, (.seq #[] 0), #[]⟩) :: (nat_lit 211, ⟨(.type "code"), none, (.fields #[(.str "refuse_other" 445), (.str "Family.refuse_other" 446), (.str "/claim/cut.py" 447), (.int 59 0), (.int 2 0), (.int 0 0), (.int 0 0), (.int 3 0), (.ref 206), (.bool true), (.int 181 0), (.ref 207), .none, (.ref 208), (.ref 209), (.ref 210), (.int 450 0), (.int 59 0), (.str "/claim/cut.py" 451)]), #[]⟩) :: (nat_lit 212, ⟨(.type "function"), none, (.func (fnOf "refuse_other" "Family.refuse_other" (defArgs (inClass (top 15) 7)) (defBody (inClass (top 15) 7)) (defScope (inClass (top 15) 7)) .none .none .none (.str "countkin.kin" 373) none (.ref 211) .none)), #[]⟩) :: (nat_lit 213, ⟨(.type "tuple"), none, (.seq #[] 0), #[]⟩) :: (nat_lit 215, ⟨(.type "tuple"), none, (.seq #[(.str "self" 456), (.str "thing" 457)] 0), #[]⟩) :: (nat_lit 216, ⟨(.type "tuple"), none, (.seq #[] 0), #[]⟩) :: (nat_lit 218, ⟨(.type "code"), none, (.fields #[(.str "number_of" 453), (.str "Family.number_of" 454), (.str "/claim/cut.py" 455), (.int 63 0), (.int 2 0), (.int 0 0), (.int 0 0), (.int 3 0), (.ref 213), (.bool true), (.int 181 0), (.ref 214), .none, (.ref 215), (.ref 216), (.ref 217), (.int 458 0), (.int 63 0), (.str "/claim/cut.py" 459)]), #[]⟩) :: (nat_lit 219, ⟨(.type "function"), none, (.func (fnOf "number_of" "Family.number_of" (defArgs (inClass (top 15) 8)) (defBody (inClass (top 15) 8)) (defScope (inClass (top 15) 8)) .none .none .none (.str "countkin.kin" 373) none (.ref 218) .none)), #[]⟩) :: (nat_lit 220, ⟨(.type "tuple"), none, (.seq #[] 0), #[]⟩) :: (nat_lit 222, ⟨(.type "tuple"), none, (.seq #[(.str "self" 464), (.str "size" 465), (.str "number" 466), (.str "most" 467)] 0), #[]⟩) :: (nat_lit 223, ⟨(.type "tuple"), none, (.seq #[] 0), #[]⟩) :: (nat_lit 225, ⟨(.type "code"), none, (.fields #[(.str "thing_of" 461), (.str "Family.thing_of" 462), (.str "/claim/cut.py" 463), (.int 67 0), (.int 3 0), (.int 0 0), (.int 0 0), (.int 3 0), (.ref 220), (.bool true), (.int 181 0), (.ref 221), .none, (.ref 222), (.ref 223), (.ref 224), (.int 468 0), (.int 67 0), (.str "/claim/cut.py" 469)]), #[]⟩) :: (nat_lit 226, ⟨(.type "function"), none, (.func (fnOf "thing_of" "Family.thing_of" (defArgs (inClass (top 15) 9)) (defBody (inClass (top 15) 9)) (defScope (inClass (top 15) 9)) .none .none .none (.str "countkin.kin" 373) none (.ref 225) .none)), #[]⟩) :: (nat_lit 227, ⟨(.type "tuple"), none, (.seq #[] 0), #[]⟩) :: (nat_lit 229, ⟨(.type "tuple"), none, (.seq #[(.str "self" 474), (.str "thing" 475), (.str "number" 476), (.str "size" 477)] 0), #[]⟩) :: (nat_lit 230, ⟨(.type "tuple"), none, (.seq #[] 0), #[]⟩) :: (nat_lit 232, ⟨(.type "code"), none, (.fields #[(.str "next_of" 471), (.str "Family.next_of" 472), (.str "/claim/cut.py" 473), (.int 73 0), (.int 2 0), (.int 0 0), (.int 0 0), (.int 3 0), (.ref 227), (.bool true), (.int 181 0), (.ref 228), .none, (.ref 229), (.ref 230), (.ref 231), (.int 478 0), (.int 73 0), (.str "/claim/cut.py" 479)]), #[]⟩) :: (nat_lit 233, ⟨(.type "function"), none, (.func (fnOf "next_of" "Family.next_of" (defArgs (inClass (top 15) 10)) (defBody (inClass (top 15) 10)) (defScope (inClass (top 15) 10)) .none .none .none (.str "countkin.kin" 373) none (.ref 232) .none)), #[]⟩) :: (nat_lit 234, ⟨(.type "tuple"), none, (.seq #[(.str "least" 481), (.str "word" 482)] 0), #[]⟩) :: (nat_lit 235, ⟨(.type "dict"), none, (.dict #[⟨PyData.keyHash P "__module__", .str "__module__" 382, (.str "countkin.kin" 373)⟩, ⟨PyData.keyHash P "__firstlineno__", .str "__firstlineno__" 386, (.int 33 385)⟩, ⟨PyData.keyHash P "__init__", .str "__init__" 395, (.ref 163)⟩, ⟨PyData.keyHash P "size_of", .str "size_of" 403, (.ref 170)⟩, ⟨PyData.keyHash P "is_one", .str "is_one" 411, (.ref 177)⟩, ⟨PyData.keyHash P "unchecked_many", .str "unchecked_many" 419, (.ref 184)⟩, ⟨PyData.keyHash P "unchecked_number", .str "unchecked_number" 427, (.ref 191)⟩, ⟨PyData.keyHash P "unchecked_thing", .str "unchecked_thing" 436, (.ref 198)⟩, ⟨PyData.keyHash P "many", .str "many" 444, (.ref 205)⟩, ⟨PyData.keyHash P "refuse_other", .str "refuse_other" 452, (.ref 212)⟩, ⟨PyData.keyHash P "number_of", .str "number_of" 460, (.ref 219)⟩, ⟨PyData.keyHash P "thing_of", .str "thing_of" 470, (.ref 226)⟩, ⟨PyData.keyHash P "next_of", .str "next_of" 480, (.ref 233)⟩, ⟨PyData.keyHash P "__static_attributes__", .str "__static_attributes__" 483, (.ref 234)⟩, ⟨PyData.keyHash P "__dict__", .str "__dict__" 485, (.ref 237)⟩, ⟨PyData.keyHash P "__weakref__", .str "__weakref__" 487, (.ref 238)⟩, ⟨PyData.keyHash P "__doc__", .str "__doc__" 488, .none⟩] 4), #[]⟩) :: (nat_lit 236, ⟨(.type "type"), none, (.cls ⟨"Family", [(.type "object")], [(.ref 236), (.type "object")], 235, "Family", true, [], [(.ref 292)], false, none, false⟩), #[none, none, (some (.str "Family" 375)), (some (.str "Family" 383)), (some (.builtin "object.__new__")), (some (.bool true))]⟩) :: (nat_lit 237, ⟨(.type "getset_descriptor"), none, (.fields #[(.str "__dict__" 484), (.ref 236), (.builtin "function.__dict__"), (.builtin "function.__dict__#set")]), #[]⟩) :: (nat_lit 238, ⟨(.type "getset_descriptor"), none, (.fields #[(.str "__weakref__" 486), (.ref 236), (.builtin "ExceptionGroup.__weakref__"), .none]), #[]⟩) :: (nat_lit 241, ⟨(.type "tuple"), none, (.seq #[(.ref 236)] 0), #[]⟩) :: (nat_lit 248, ⟨(.type "tuple"), none, (.seq #[] 0), #[]⟩) :: (nat_lit 250, ⟨(.type "tuple"), none, (.seq #[(.str "self" 508), (.str "word" 509)] 0), #[]⟩) :: (nat_lit 251, ⟨(.type "tuple"), none, (.seq #[] 0), #[]⟩) :: (nat_lit 253, ⟨(.type "code"), none, (.fields #[(.str "__init__" 505), (.str "RingFamily.__init__" 506), (.str "/claim/cut.py" 507), (.int 82 0), (.int 2 0), (.int 0 0), (.int 0 0), (.int 3 0), (.ref 248), (.bool true), (.int 181 0), (.ref 249), .none, (.ref 250), (.ref 251), (.ref 252), (.int 510 0), (.int 82 0), (.str "/claim/cut.py" 511)]), #[]⟩) :: (nat_lit 254, ⟨(.type "function"), none, (.func (fnOf "__init__" "RingFamily.__init__" (defArgs (inClass (top 17) 0)) (defBody (inClass (top 17) 0)) (defScope (inClass (top 17) 0)) .none .none .none (.str "countkin.ring" 491) none (.ref 253) .none)), #[]⟩) :: (nat_lit 255, ⟨(.type "tuple"), none, (.seq #[] 0), #[]⟩) :: (nat_lit 257, ⟨(.type "tuple"), none, (.seq #[(.str "self" 516), (.str "thing" 517)] 0), #[]⟩) :: (nat_lit 258, ⟨(.type "tuple"), none, (.seq #[] 0), #[]⟩) :: (nat_lit 260, ⟨(.type "code"), none, (.fields #[(.str "code_of" 513), (.str "RingFamily.code_of" 514), (.str "/claim/cut.py" 515), (.int 85 0), (.int 2 0), (.int 0 0), (.int 0 0), (.int 3 0), (.ref 255), (.bool true), (.int 181 0), (.ref 256), .none, (.ref 257), (.ref 258), (.ref 259), (.int 518 0), (.int 85 0), (.str "/claim/cut.py" 519)]), #[]⟩) :: (nat_lit 261, ⟨(.type "function"), none, (.func (fnOf "code_of" "RingFamily.code_of" (defArgs (inClass (top 17) 1)) (defBody (inClass (top 17) 1)) (defScope (inClass (top 17) 1)) .none .none .none (.str "countkin.ring" 491) none (.ref 260) .none)), #[]⟩) :: (nat_lit 262, ⟨(.type "tuple"), none, (.seq #[] 0), #[]⟩) :: (nat_lit 264, ⟨(.type "tuple"), none, (.seq #[(.str "self" 524), (.str "code" 525)] 0), #[]⟩) :: (nat_lit 265, ⟨(.type "tuple"), none, (.seq #[] 0), #[]⟩) :: (nat_lit 267, ⟨(.type "code"), none, (.fields #[(.str "of_code" 521), (.str "RingFamily.of_code" 522), (.str "/claim/cut.py" 523), (.int 88 0), (.int 2 0), (.int 0 0), (.int 0 0), (.int 3 0), (.ref 262), (.bool true), (.int 181 0), (.ref 263), .none, (.ref 264), (.ref 265), (.ref 266), (.int 526 0), (.int 88 0), (.str "/claim/cut.py" 527)]), #[]⟩) :: (nat_lit 268, ⟨(.type "function"), none, (.func (fnOf "of_code" "RingFamily.of_code" (defArgs (inClass (top 17) 2)) (defBody (inClass (top 17) 2)) (defScope (inClass (top 17) 2)) .none .none .none (.str "countkin.ring" 491) none (.ref 267) .none)), #[]⟩) :: (nat_lit 269, ⟨(.type "tuple"), none, (.seq #[] 0), #[]⟩) :: (nat_lit 271, ⟨(.type "tuple"), none, (.seq #[(.str "self" 532), (.str "size" 533)] 0), #[]⟩) :: (nat_lit 272, ⟨(.type "tuple"), none, (.seq #[] 0), #[]⟩) :: (nat_lit 274, ⟨(.type "code"), none, (.fields #[(.str "unchecked_many" 529), (.str "RingFamily.unchecked_many" 530), (.str "/claim/cut.py" 531), (.int 91 0), (.int 2 0), (.int 0 0), (.int 0 0), (.int 3 0), (.ref 269), (.bool true), (.int 181 0), (.ref 270), .none, (.ref 271), (.ref 272), (.ref 273), (.int 534 0), (.int 91 0), (.str "/claim/cut.py" 535)]), #[]⟩) :: (nat_lit 275, ⟨(.type "function"), none, (.func (fnOf "unchecked_many" "RingFamily.unchecked_many" (defArgs (inClass (top 17) 3)) (defBody (inClass (top 17) 3)) (defScope (inClass (top 17) 3)) .none .none .none (.str "countkin.ring" 491) none (.ref 274) .none)), #[]⟩) :: (nat_lit 276, ⟨(.type "tuple"), none, (.seq #[] 0), #[]⟩) :: (nat_lit 278, ⟨(.type "tuple"), none, (.seq #[(.str "self" 540), (.str "thing" 541)] 0), #[]⟩) :: (nat_lit 279, ⟨(.type "tuple"), none, (.seq #[] 0), #[]⟩) :: (nat_lit 281, ⟨(.type "code"), none, (.fields #[(.str "unchecked_number" 537), (.str "RingFamily.unchecked_number" 538), (.str "/claim/cut.py" 539), (.int 94 0), (.int 2 0), (.int 0 0), (.int 0 0), (.int 3 0), (.ref 276), (.bool true), (.int 181 0), (.ref 277), .none, (.ref 278), (.ref 279), (.ref 280), (.int 542 0), (.int 94 0), (.str "/claim/cut.py" 543)]), #[]⟩) :: (nat_lit 282, ⟨(.type "function"), none, (.func (fnOf "unchecked_number" "RingFamily.unchecked_number" (defArgs (inClass (top 17) 4)) (defBody (inClass (top 17) 4)) (defScope (inClass (top 17) 4)) .none .none .none (.str "countkin.ring" 491) none (.ref 281) .none)), #[]⟩) :: (nat_lit 283, ⟨(.type "tuple"), none, (.seq #[] 0), #[]⟩) :: (nat_lit 285, ⟨(.type "tuple"), none, (.seq #[(.str "self" 548), (.str "size" 549), (.str "number" 550)] 0), #[]⟩) :: (nat_lit 286, ⟨(.type "tuple"), none, (.seq #[] 0), #[]⟩) :: (nat_lit 288, ⟨(.type "code"), none, (.fields #[(.str "unchecked_thing" 545), (.str "RingFamily.unchecked_thing" 546), (.str "/claim/cut.py" 547), (.int 97 0), (.int 3 0), (.int 0 0), (.int 0 0), (.int 3 0), (.ref 283), (.bool true), (.int 181 0), (.ref 284), .none, (.ref 285), (.ref 286), (.ref 287), (.int 551 0), (.int 97 0), (.str "/claim/cut.py" 552)]), #[]⟩) :: (nat_lit 289, ⟨(.type "function"), none, (.func (fnOf "unchecked_thing" "RingFamily.unchecked_thing" (defArgs (inClass (top 17) 5)) (defBody (inClass (top 17) 5)) (defScope (inClass (top 17) 5)) .none .none .none (.str "countkin.ring" 491) none (.ref 288) .none)), #[]⟩) :: (nat_lit 290, ⟨(.type "tuple"), none, (.seq #[] 0), #[]⟩) :: (nat_lit 291, ⟨(.type "dict"), none, (.dict #[⟨PyData.keyHash P "__module__", .str "__module__" 500, (.str "countkin.ring" 491)⟩, ⟨PyData.keyHash P "__firstlineno__", .str "__firstlineno__" 504, (.int 80 503)⟩, ⟨PyData.keyHash P "__init__", .str "__init__" 512, (.ref 254)⟩, ⟨PyData.keyHash P "code_of", .str "code_of" 520, (.ref 261)⟩, ⟨PyData.keyHash P "of_code", .str "of_code" 528, (.ref 268)⟩, ⟨PyData.keyHash P "unchecked_many", .str "unchecked_many" 536, (.ref 275)⟩, ⟨PyData.keyHash P "unchecked_number", .str "unchecked_number" 544, (.ref 282)⟩, ⟨PyData.keyHash P "unchecked_thing", .str "unchecked_thing" 553, (.ref 289)⟩, ⟨PyData.keyHash P "__static_attributes__", .str "__static_attributes__" 554, (.ref 290)⟩, ⟨PyData.keyHash P "__doc__", .str "__doc__" 555, .none⟩] 2), #[]⟩) :: (nat_lit 292, ⟨(.type "type"), none, (.cls ⟨"RingFamily", [(.ref 236)], [(.ref 292), (.ref 236), (.type "object")], 291, "RingFamily", true, [], [(.ref 351), (.ref 392), (.ref 454)], false, none, false⟩), #[(some (.ref 241)), none, (some (.str "RingFamily" 493)), (some (.str "RingFamily" 501)), (some (.builtin "object.__new__")), (some (.bool true))]⟩) :: (nat_lit 295, ⟨(.type "tuple"), none, (.seq #[] 0), #[]⟩) :: (nat_lit 297, ⟨(.type "tuple"), none, (.seq #[(.str "figures" 561), (.str "base" 562), (.str "number" 563), (.str "figure" 564)] 0), #[]⟩) :: (nat_lit 298, ⟨(.type "tuple"), none, (.seq #[] 0), #[]⟩) :: (nat_lit 300, ⟨(.type "code"), none, (.fields #[(.str "figures_number" 558), (.str "figures_number" 559), (.str "/claim/cut.py" 560), (.int 99 0), (.int 2 0), (.int 0 0), (.int 0 0), (.int 3 0), (.ref 295), (.bool true), (.int 181 0), (.ref 296), .none, (.ref 297), (.ref 298), (.ref 299), (.int 565 0), (.int 99 0), (.str "/claim/cut.py" 566)]), #[]⟩) :: (nat_lit 301, ⟨(.type "function"), none, (.func (fnOf "figures_number" "figures_number" (defArgs (top 18)) (defBody (top 18)) (defScope (top 18)) .none .none .none (.str "countkin.ring" 491) none (.ref 300) .none)), #[]⟩) :: (nat_lit 302, ⟨(.type "tuple"), none, (.seq #[] 0), #[]⟩) :: (nat_lit 304, ⟨(.type "tuple"), none, (.seq #[(.str "number" 571), (.str "base" 572), (.str "length" 573), (.str "figures" 574), (.str "rest" 575), (.str "place" 576)] 0), #[]⟩) :: (nat_lit 305, ⟨(.type "tuple"), none, (.seq #[] 0), #[]⟩) :: (nat_lit 307, ⟨(.type "code"), none, (.fields #[(.str "number_figures" 568), (.str "number_figures" 569), (.str "/claim/cut.py" 570), (.int 104 0), (.int 3 0), (.int 0 0), (.int 0 0), (.int 3 0), (.ref 302), (.bool true), (.int 181 0), (.ref 303), .none, (.ref 304), (.ref 305), (.ref 306), (.int 577 0), (.int 104 0), (.str "/claim/cut.py" 578)]), #[]⟩) :: (nat_lit 308, ⟨(.type "function"), none, (.func (fnOf "number_figures" "number_figures" (defArgs (top 19)) (defBody (top 19)) (defScope (top 19)) .none .none .none (.str "countkin.ring" 491) none (.ref 307) .none)), #[]⟩) :: (nat_lit 309, ⟨(.type "tuple"), none, (.seq #[(.ref 292)] 0), #[]⟩) :: (nat_lit 316, ⟨(.type "tuple"), none, (.seq #[] 0), #[]⟩) :: (nat_lit 318, ⟨(.type "tuple"), none, (.seq #[(.str "self" 595)] 0), #[]⟩) :: (nat_lit 319, ⟨(.type "tuple"), none, (.seq #[] 0), #[]⟩) :: (nat_lit 321, ⟨(.type "code"), none, (.fields #[(.str "__init__" 592), (.str "Codes.__init__" 593), (.str "/claim/cut.py" 594), (.int 113 0), (.int 1 0), (.int 0 0), (.int 0 0), (.int 3 0), (.ref 316), (.bool true), (.int 181 0), (.ref 317), .none, (.ref 318), (.ref 319), (.ref 320), (.int 596 0), (.int 113 0), (.str "/claim/cut.py" 597)]), #[]⟩) :: (nat_lit 322, ⟨(.type "function"), none, (.func (fnOf "__init__" "Codes.__init__" (defArgs (inClass (top 20) 0)) (defBody (inClass (top 20) 0)) (defScope (inClass (top 20) 0)) .none .none .none (.str "countkin.ring" 491) none (.ref 321) .none)), #[]⟩) :: (nat_lit 323, ⟨(.type "tuple"), none, (.seq #[] 0), #[]⟩) :: (nat_lit 325, ⟨(.type "tuple"), none, (.seq #[(.str "self" 602), (.str "thing" 603)] 0), #[]⟩) :: (nat_lit 326, ⟨(.type "tuple"), none, (.seq #[] 0), #[]⟩) :: (nat_lit 328, ⟨(.type "code"), none, (.fields #[(.str "size_of" 599), (.str "Codes.size_of" 600), (.str "/claim/cut.py" 601), (.int 116 0), (.int 2 0), (.int 0 0), (.int 0 0), (.int 3 0), (.ref 323), (.bool true), (.int 181 0), (.ref 324), .none, (.ref 325), (.ref 326), (.ref 327), (.int 604 0), (.int 116 0), (.str "/claim/cut.py" 605)]), #[]⟩) :: (nat_lit 329, ⟨(.type "function"), none, (.func (fnOf "size_of" "Codes.size_of" (defArgs (inClass (top 20) 1)) (defBody (inClass (top 20) 1)) (defScope (inClass (top 20) 1)) .none .none .none (.str "countkin.ring" 491) none (.ref 328) .none)), #[]⟩) :: (nat_lit 330, ⟨(.type "tuple"), none, (.seq #[] 0), #[]⟩) :: (nat_lit 333, ⟨(.type "code"), none, (.fields #[(.str "is_one" 607), (.str "Codes.is_one" 608), (.str "/claim/cut.py" 609), (.int 119 0), (.int 2 0), (.int 0 0), (.int 0 0), (.int 3 0), (.ref 330), (.bool true), (.int 181 0), (.ref 331), .none, .none, .none, (.ref 332), (.int 610 0), (.int 119 0), (.str "/claim/cut.py" 611)]), #[]⟩) :: (nat_lit 334, ⟨(.type "function"), none, (.func (fnOf "is_one" "Codes.is_one" (defArgs (inClass (top 20) 2)) (defBody (inClass (top 20) 2)) (defScope (inClass (top 20) 2)) .none .none .none (.str "countkin.ring" 491) none (.ref 333) .none)), #[]⟩) :: (nat_lit 335, ⟨(.type "tuple"), none, (.seq #[] 0), #[]⟩) :: (nat_lit 337, ⟨(.type "tuple"), none, (.seq #[(.str "self" 616), (.str "thing" 617)] 0), #[]⟩) :: (nat_lit 338, ⟨(.type "tuple"), none, (.seq #[] 0), #[]⟩) :: (nat_lit 340, ⟨(.type "code"), none, (.fields #[(.str "code_of" 613), (.str "Codes.code_of" 614), (.str "/claim/cut.py" 615), (.int 123 0), (.int 2 0), (.int 0 0), (.int 0 0), (.int 3 0), (.ref 335), (.bool true), (.int 181 0), (.ref 336), .none, (.ref 337), (.ref 338), (.ref 339), (.int 618 0), (.int 123 0), (.str "/claim/cut.py" 619)]), #[]⟩) :: (nat_lit 341, ⟨(.type "function"), none, (.func (fnOf "code_of" "Codes.code_of" (defArgs (inClass (top 20) 3)) (defBody (inClass (top 20) 3)) (defScope (inClass (top 20) 3)) .none .none .none (.str "countkin.ring" 491) none (.ref 340) .none)), #[]⟩) :: (nat_lit 342, ⟨(.type "tuple"), none, (.seq #[] 0), #[]⟩) :: (nat_lit 344, ⟨(.type "tuple"), none, (.seq #[(.str "self" 624), (.str "code" 625)] 0), #[]⟩) :: (nat_lit 345, ⟨(.type "tuple"), none, (.seq #[] 0), #[]⟩) :: (nat_lit 347, ⟨(.type "code"), none, (.fields #[(.str "of_code" 621), (.str "Codes.of_code" 622), (.str "/claim/cut.py" 623), (.int 126 0), (.int 2 0), (.int 0 0), (.int 0 0), (.int 3 0), (.ref 342), (.bool true), (.int 181 0), (.ref 343), .none, (.ref 344), (.ref 345), (.ref 346), (.int 626 0), (.int 126 0), (.str "/claim/cut.py" 627)]), #[]⟩) :: (nat_lit 348, ⟨(.type "function"), none, (.func (fnOf "of_code" "Codes.of_code" (defArgs (inClass (top 20) 4)) (defBody (inClass (top 20) 4)) (defScope (inClass (top 20) 4)) .none .none .none (.str "countkin.ring" 491) none (.ref 347) .none)), #[]⟩) :: (nat_lit 349, ⟨(.type "tuple"), none, (.seq #[] 0), #[]⟩) :: (nat_lit 350, ⟨(.type "dict"), none, (.dict #[⟨PyData.keyHash P "__module__", .str "__module__" 587, (.str "countkin.ring" 491)⟩, ⟨PyData.keyHash P "__firstlineno__", .str "__firstlineno__" 591, (.int 111 590)⟩, ⟨PyData.keyHash P "__init__", .str "__init__" 598, (.ref 322)⟩, ⟨PyData.keyHash P "size_of", .str "size_of" 606, (.ref 329)⟩, ⟨PyData.keyHash P "is_one", .str "is_one" 612, (.ref 334)⟩, ⟨PyData.keyHash P "code_of", .str "code_of" 620, (.ref 341)⟩, ⟨PyData.keyHash P "of_code", .str "of_code" 628, (.ref 348)⟩, ⟨PyData.keyHash P "__static_attributes__", .str "__static_attributes__" 629, (.ref 349)⟩, ⟨PyData.keyHash P "__doc__", .str "__doc__" 630, .none⟩] 2), #[]⟩) :: (nat_lit 351, ⟨(.type "type"), none, (.cls ⟨"Codes", [(.ref 292)], [(.ref 351), (.ref 292), (.ref 236), (.type "object")], 350, "Codes", true, [], [], false, none, false⟩), #[(some (.ref 309)), none, (some (.str "Codes" 580)), (some (.str "Codes" 588)), (some (.builtin "object.__new__")), (some (.bool true))]⟩) :: (nat_lit 354, ⟨(.type "tuple"), none, (.seq #[(.ref 292)] 0), #[]⟩) :: (nat_lit 361, ⟨(.type "tuple"), none, (.seq #[] 0), #[]⟩) :: (nat_lit 363, ⟨(.type "tuple"), none, (.seq #[(.str "self" 650)] 0), #[]⟩) :: (nat_lit 364, ⟨(.type "tuple"), none, (.seq #[] 0), #[]⟩) :: (nat_lit 366, ⟨(.type "code"), none, (.fields #[(.str "__init__" 647), (.str "Cars.__init__" 648), (.str "/claim/cut.py" 649), (.int 131 0), (.int 1 0), (.int 0 0), (.int 0 0), (.int 3 0), (.ref 361), (.bool true), (.int 181 0), (.ref 362), .none, (.ref 363), (.ref 364), (.ref 365), (.int 651 0), (.int 131 0), (.str "/claim/cut.py" 652)]), #[]⟩) :: (nat_lit 367, ⟨(.type "function"), none, (.func (fnOf "__init__" "Cars.__init__" (defArgs (inClass (top 22) 0)) (defBody (inClass (top 22) 0)) (defScope (inClass (top 22) 0)) .none .none .none (.str "countkin.cars" 633) none (.ref 366) .none)), #[]⟩) :: (nat_lit 368, ⟨(.type "tuple"), none, (.seq #[] 0), #[]⟩) :: (nat_lit 370, ⟨(.type "tuple"), none, (.seq #[(.str "self" 657), (.str "thing" 658)] 0), #[]⟩) :: (nat_lit 371, ⟨(.type "tuple"), none, (.seq #[] 0), #[]⟩) :: (nat_lit 373, ⟨(.type "code"), none, (.fields #[(.str "size_of" 654), (.str "Cars.size_of" 655), (.str "/claim/cut.py" 656), (.int 134 0), (.int 2 0), (.int 0 0), (.int 0 0), (.int 3 0), (.ref 368), (.bool true), (.int 181 0), (.ref 369), .none, (.ref 370), (.ref 371), (.ref 372), (.int 659 0), (.int 134 0), (.str "/claim/cut.py" 660)]), #[]⟩) :: (nat_lit 374, ⟨(.type "function"), none, (.func (fnOf "size_of" "Cars.size_of" (defArgs (inClass (top 22) 1)) (defBody (inClass (top 22) 1)) (defScope (inClass (top 22) 1)) .none .none .none (.str "countkin.cars" 633) none (.ref 373) .none)), #[]⟩) :: (nat_lit 375, ⟨(.type "tuple"), none, (.seq #[] 0), #[]⟩) :: (nat_lit 378, ⟨(.type "code"), none, (.fields #[(.str "is_one" 662), (.str "Cars.is_one" 663), (.str "/claim/cut.py" 664), (.int 137 0), (.int 2 0), (.int 0 0), (.int 0 0), (.int 3 0), (.ref 375), (.bool true), (.int 181 0), (.ref 376), .none, .none, .none, (.ref 377), (.int 665 0), (.int 137 0), (.str "/claim/cut.py" 666)]), #[]⟩) :: (nat_lit 379, ⟨(.type "function"), none, (.func (fnOf "is_one" "Cars.is_one" (defArgs (inClass (top 22) 2)) (defBody (inClass (top 22) 2)) (defScope (inClass (top 22) 2)) .none .none .none (.str "countkin.cars" 633) none (.ref 378) .none)), #[]⟩) :: (nat_lit 380, ⟨(.type "tuple"), none, (.seq #[] 0), #[]⟩) :: (nat_lit 383, ⟨(.type "code"), none, (.fields #[(.str "code_of" 668), (.str "Cars.code_of" 669), (.str "/claim/cut.py" 670), (.int 142 0), (.int 2 0), (.int 0 0), (.int 0 0), (.int 3 0), (.ref 380), (.bool true), (.int 181 0), (.ref 381), .none, .none, .none, (.ref 382), (.int 671 0), (.int 142 0), (.str "/claim/cut.py" 672)]), #[]⟩) :: (nat_lit 384, ⟨(.type "function"), none, (.func (fnOf "code_of" "Cars.code_of" (defArgs (inClass (top 22) 3)) (defBody (inClass (top 22) 3)) (defScope (inClass (top 22) 3)) .none .none .none (.str "countkin.cars" 633) none (.ref 383) .none)), #[]⟩) :: (nat_lit 385, ⟨(.type "tuple"), none, (.seq #[] 0), #[]⟩) :: (nat_lit 388, ⟨(.type "code"), none, (.fields #[(.str "of_code" 674), (.str "Cars.of_code" 675), (.str "/claim/cut.py" 676), (.int 146 0), (.int 2 0), (.int 0 0), (.int 0 0), (.int 3 0), (.ref 385), (.bool true), (.int 181 0), (.ref 386), .none, .none, .none, (.ref 387), (.int 677 0), (.int 146 0), (.str "/claim/cut.py" 678)]), #[]⟩) :: (nat_lit 389, ⟨(.type "function"), none, (.func (fnOf "of_code" "Cars.of_code" (defArgs (inClass (top 22) 4)) (defBody (inClass (top 22) 4)) (defScope (inClass (top 22) 4)) .none .none .none (.str "countkin.cars" 633) none (.ref 388) .none)), #[]⟩) :: (nat_lit 390, ⟨(.type "tuple"), none, (.seq #[] 0), #[]⟩) :: (nat_lit 391, ⟨(.type "dict"), none, (.dict #[⟨PyData.keyHash P "__module__", .str "__module__" 642, (.str "countkin.cars" 633)⟩, ⟨PyData.keyHash P "__firstlineno__", .str "__firstlineno__" 646, (.int 129 645)⟩, ⟨PyData.keyHash P "__init__", .str "__init__" 653, (.ref 367)⟩, ⟨PyData.keyHash P "size_of", .str "size_of" 661, (.ref 374)⟩, ⟨PyData.keyHash P "is_one", .str "is_one" 667, (.ref 379)⟩, ⟨PyData.keyHash P "code_of", .str "code_of" 673, (.ref 384)⟩, ⟨PyData.keyHash P "of_code", .str "of_code" 679, (.ref 389)⟩, ⟨PyData.keyHash P "__static_attributes__", .str "__static_attributes__" 680, (.ref 390)⟩, ⟨PyData.keyHash P "__doc__", .str "__doc__" 681, .none⟩] 2), #[]⟩) :: (nat_lit 392, ⟨(.type "type"), none, (.cls ⟨"Cars", [(.ref 292)], [(.ref 392), (.ref 292), (.ref 236), (.type "object")], 391, "Cars", true, [], [], false, none, false⟩), #[(some (.ref 354)), none, (some (.str "Cars" 635)), (some (.str "Cars" 643)), (some (.builtin "object.__new__")), (some (.bool true))]⟩) :: (nat_lit 395, ⟨(.type "tuple"), none, (.seq #[] 0), #[]⟩) :: (nat_lit 397, ⟨(.type "tuple"), none, (.seq #[(.str "thing" 687), (.str "places" 688), (.str "wish" 689), (.str "place" 690)] 0), #[]⟩) :: (nat_lit 398, ⟨(.type "tuple"), none, (.seq #[] 0), #[]⟩) :: (nat_lit 400, ⟨(.type "code"), none, (.fields #[(.str "parked" 684), (.str "parked" 685), (.str "/claim/cut.py" 686), (.int 154 0), (.int 1 0), (.int 0 0), (.int 0 0), (.int 3 0), (.ref 395), (.bool true), (.int 181 0), (.ref 396), .none, (.ref 397), (.ref 398), (.ref 399), (.int 691 0), (.int 154 0), (.str "/claim/cut.py" 692)]), #[]⟩) :: (nat_lit 401, ⟨(.type "function"), none, (.func (fnOf "parked" "parked" (defArgs (top 23)) (defBody (top 23)) (defScope (top 23)) .none .none .none (.str "countkin.cars" 633) none (.ref 400) .none)), #[]⟩) :: (nat_lit 402, ⟨(.type "tuple"), none, (.seq #[] 0), #[]⟩) :: (nat_lit 404, ⟨(.type "tuple"), none, (.seq #[(.str "thing" 697)] 0), #[]⟩) :: (nat_lit 405, ⟨(.type "tuple"), none, (.seq #[] 0), #[]⟩) :: (nat_lit 407, ⟨(.type "code"), none, (.fields #[(.str "cars_to_code" 694), (.str "cars_to_code" 695), (.str "/claim/cut.py" 696), (.int 163 0), (.int 1 0), (.int 0 0), (.int 0 0), (.int 3 0), (.ref 402), (.bool true), (.int 181 0), (.ref 403), .none, (.ref 404), (.ref 405), (.ref 406), (.int 698 0), (.int 163 0), (.str "/claim/cut.py" 699)]), #[]⟩) :: (nat_lit 408, ⟨(.type "function"), none, (.func (fnOf "cars_to_code" "cars_to_code" (defArgs (top 24)) (defBody (top 24)) (defScope (top 24)) .none .none .none (.str "countkin.cars" 633) none (.ref 407) .none)), #[]⟩) :: (nat_lit 409, ⟨(.type "tuple"), none, (.seq #[] 0), #[]⟩) :: (nat_lit 411, ⟨(.type "tuple"), none, (.seq #[(.str "thing" 704)] 0), #[]⟩) :: (nat_lit 412, ⟨(.type "tuple"), none, (.seq #[] 0), #[]⟩) :: (nat_lit 414, ⟨(.type "code"), none, (.fields #[(.str "code_to_cars" 701), (.str "code_to_cars" 702), (.str "/claim/cut.py" 703), (.int 166 0), (.int 1 0), (.int 0 0), (.int 0 0), (.int 3 0), (.ref 409), (.bool true), (.int 181 0), (.ref 410), .none, (.ref 411), (.ref 412), (.ref 413), (.int 705 0), (.int 166 0), (.str "/claim/cut.py" 706)]), #[]⟩) :: (nat_lit 415, ⟨(.type "function"), none, (.func (fnOf "code_to_cars" "code_to_cars" (defArgs (top 25)) (defBody (top 25)) (defScope (top 25)) .none .none .none (.str "countkin.cars" 633) none (.ref 414) .none)), #[]⟩) :: (nat_lit 416, ⟨(.type "tuple"), none, (.seq #[(.ref 292)] 0), #[]⟩) :: (nat_lit 423, ⟨(.type "tuple"), none, (.seq #[] 0), #[]⟩) :: (nat_lit 425, ⟨(.type "tuple"), none, (.seq #[(.str "self" 725)] 0), #[]⟩) :: (nat_lit 426, ⟨(.type "tuple"), none, (.seq #[] 0), #[]⟩) :: (nat_lit 428, ⟨(.type "code"), none, (.fields #[(.str "__init__" 722), (.str "Trees.__init__" 723), (.str "/claim/cut.py" 724), (.int 172 0), (.int 1 0), (.int 0 0), (.int 0 0), (.int 3 0), (.ref 423), (.bool true), (.int 181 0), (.ref 424), .none, (.ref 425), (.ref 426), (.ref 427), (.int 726 0), (.int 172 0), (.str "/claim/cut.py" 727)]), #[]⟩) :: (nat_lit 429, ⟨(.type "function"), none, (.func (fnOf "__init__" "Trees.__init__" (defArgs (inClass (top 27) 0)) (defBody (inClass (top 27) 0)) (defScope (inClass (top 27) 0)) .none .none .none (.str "countkin.elders" 708) none (.ref 428) .none)), #[]⟩) :: (nat_lit 430, ⟨(.type "tuple"), none, (.seq #[] 0), #[]⟩) :: (nat_lit 432, ⟨(.type "tuple"), none, (.seq #[(.str "self" 732), (.str "thing" 733)] 0), #[]⟩) :: (nat_lit 433, ⟨(.type "tuple"), none, (.seq #[] 0), #[]⟩) :: (nat_lit 435, ⟨(.type "code"), none, (.fields #[(.str "size_of" 729), (.str "Trees.size_of" 730), (.str "/claim/cut.py" 731), (.int 175 0), (.int 2 0), (.int 0 0), (.int 0 0), (.int 3 0), (.ref 430), (.bool true), (.int 181 0), (.ref 431), .none, (.ref 432), (.ref 433), (.ref 434), (.int 734 0), (.int 175 0), (.str "/claim/cut.py" 735)]), #[]⟩) :: (nat_lit 436, ⟨(.type "function"), none, (.func (fnOf "size_of" "Trees.size_of" (defArgs (inClass (top 27) 1)) (defBody (inClass (top 27) 1)) (defScope (inClass (top 27) 1)) .none .none .none (.str "countkin.elders" 708) none (.ref 435) .none)), #[]⟩) :: (nat_lit 437, ⟨(.type "tuple"), none, (.seq #[] 0), #[]⟩) :: (nat_lit 440, ⟨(.type "code"), none, (.fields #[(.str "is_one" 737), (.str "Trees.is_one" 738), (.str "/claim/cut.py" 739), (.int 178 0), (.int 2 0), (.int 0 0), (.int 0 0), (.int 3 0), (.ref 437), (.bool true), (.int 181 0), (.ref 438), .none, .none, .none, (.ref 439), (.int 740 0), (.int 178 0), (.str "/claim/cut.py" 741)]), #[]⟩) :: (nat_lit 441, ⟨(.type "function"), none, (.func (fnOf "is_one" "Trees.is_one" (defArgs (inClass (top 27) 2)) (defBody (inClass (top 27) 2)) (defScope (inClass (top 27) 2)) .none .none .none (.str "countkin.elders" 708) none (.ref 440) .none)), #[]⟩) :: (nat_lit 442, ⟨(.type "tuple"), none, (.seq #[] 0), #[]⟩) :: (nat_lit 445, ⟨(.type "code"), none, (.fields #[(.str "code_of" 743), (.str "Trees.code_of" 744), (.str "/claim/cut.py" 745), (.int 184 0), (.int 2 0), (.int 0 0), (.int 0 0), (.int 3 0), (.ref 442), (.bool true), (.int 181 0), (.ref 443), .none, .none, .none, (.ref 444), (.int 746 0), (.int 184 0), (.str "/claim/cut.py" 747)]), #[]⟩) :: (nat_lit 446, ⟨(.type "function"), none, (.func (fnOf "code_of" "Trees.code_of" (defArgs (inClass (top 27) 3)) (defBody (inClass (top 27) 3)) (defScope (inClass (top 27) 3)) .none .none .none (.str "countkin.elders" 708) none (.ref 445) .none)), #[]⟩) :: (nat_lit 447, ⟨(.type "tuple"), none, (.seq #[] 0), #[]⟩) :: (nat_lit 450, ⟨(.type "code"), none, (.fields #[(.str "of_code" 749), (.str "Trees.of_code" 750), (.str "/claim/cut.py" 751), (.int 194 0), (.int 2 0), (.int 0 0), (.int 0 0), (.int 3 0), (.ref 447), (.bool true), (.int 181 0), (.ref 448), .none, .none, .none, (.ref 449), (.int 752 0), (.int 194 0), (.str "/claim/cut.py" 753)]), #[]⟩) :: (nat_lit 451, ⟨(.type "function"), none, (.func (fnOf "of_code" "Trees.of_code" (defArgs (inClass (top 27) 4)) (defBody (inClass (top 27) 4)) (defScope (inClass (top 27) 4)) .none .none .none (.str "countkin.elders" 708) none (.ref 450) .none)), #[]⟩) :: (nat_lit 452, ⟨(.type "tuple"), none, (.seq #[] 0), #[]⟩) :: (nat_lit 453, ⟨(.type "dict"), none, (.dict #[⟨PyData.keyHash P "__module__", .str "__module__" 717, (.str "countkin.elders" 708)⟩, ⟨PyData.keyHash P "__firstlineno__", .str "__firstlineno__" 721, (.int 170 720)⟩, ⟨PyData.keyHash P "__init__", .str "__init__" 728, (.ref 429)⟩, ⟨PyData.keyHash P "size_of", .str "size_of" 736, (.ref 436)⟩, ⟨PyData.keyHash P "is_one", .str "is_one" 742, (.ref 441)⟩, ⟨PyData.keyHash P "code_of", .str "code_of" 748, (.ref 446)⟩, ⟨PyData.keyHash P "of_code", .str "of_code" 754, (.ref 451)⟩, ⟨PyData.keyHash P "__static_attributes__", .str "__static_attributes__" 755, (.ref 452)⟩, ⟨PyData.keyHash P "__doc__", .str "__doc__" 756, .none⟩] 2), #[]⟩) :: (nat_lit 454, ⟨(.type "type"), none, (.cls ⟨"Trees", [(.ref 292)], [(.ref 454), (.ref 292), (.ref 236), (.type "object")], 453, "Trees", true, [], [], false, none, false⟩), #[(some (.ref 416)), none, (some (.str "Trees" 710)), (some (.str "Trees" 718)), (some (.builtin "object.__new__")), (some (.bool true))]⟩) :: (nat_lit 457, ⟨(.type "tuple"), none, (.seq #[] 0), #[]⟩) :: (nat_lit 459, ⟨(.type "tuple"), none, (.seq #[(.str "elders" 762), (.str "knot" 763), (.str "reached" 764), (.str "step" 765)] 0), #[]⟩) :: (nat_lit 460, ⟨(.type "tuple"), none, (.seq #[] 0), #[]⟩) :: (nat_lit 462, ⟨(.type "code"), none, (.fields #[(.str "comes_to_0" 759), (.str "comes_to_0" 760), (.str "/claim/cut.py" 761), (.int 203 0), (.int 2 0), (.int 0 0), (.int 0 0), (.int 3 0), (.ref 457), (.bool true), (.int 181 0), (.ref 458), .none, (.ref 459), (.ref 460), (.ref 461), (.int 766 0), (.int 203 0), (.str "/claim/cut.py" 767)]), #[]⟩) :: (nat_lit 463, ⟨(.type "function"), none, (.func (fnOf "comes_to_0" "comes_to_0" (defArgs (top 28)) (defBody (top 28)) (defScope (top 28)) .none .none .none (.str "countkin.elders" 708) none (.ref 462) .none)), #[]⟩) :: (nat_lit 464, ⟨(.type "tuple"), none, (.seq #[] 0), #[]⟩) :: (nat_lit 466, ⟨(.type "tuple"), none, (.seq #[(.str "thing" 772)] 0), #[]⟩) :: (nat_lit 467, ⟨(.type "tuple"), none, (.seq #[] 0), #[]⟩) :: (nat_lit 469, ⟨(.type "code"), none, (.fields #[(.str "tree_to_code" 769), (.str "tree_to_code" 770), (.str "/claim/cut.py" 771), (.int 209 0), (.int 1 0), (.int 0 0), (.int 0 0), (.int 3 0), (.ref 464), (.bool true), (.int 181 0), (.ref 465), .none, (.ref 466), (.ref 467), (.ref 468), (.int 773 0), (.int 209 0), (.str "/claim/cut.py" 774)]), #[]⟩) :: (nat_lit 470, ⟨(.type "function"), none, (.func (fnOf "tree_to_code" "tree_to_code" (defArgs (top 29)) (defBody (top 29)) (defScope (top 29)) .none .none .none (.str "countkin.elders" 708) none (.ref 469) .none)), #[]⟩) :: (nat_lit 471, ⟨(.type "tuple"), none, (.seq #[] 0), #[]⟩) :: (nat_lit 473, ⟨(.type "tuple"), none, (.seq #[(.str "thing" 779)] 0), #[]⟩) :: (nat_lit 474, ⟨(.type "tuple"), none, (.seq #[] 0), #[]⟩) :: (nat_lit 476, ⟨(.type "code"), none, (.fields #[(.str "code_to_tree" 776), (.str "code_to_tree" 777), (.str "/claim/cut.py" 778), (.int 212 0), (.int 1 0), (.int 0 0), (.int 0 0), (.int 3 0), (.ref 471), (.bool true), (.int 181 0), (.ref 472), .none, (.ref 473), (.ref 474), (.ref 475), (.int 780 0), (.int 212 0), (.str "/claim/cut.py" 781)]), #[]⟩) :: (nat_lit 477, ⟨(.type "function"), none, (.func (fnOf "code_to_tree" "code_to_tree" (defArgs (top 30)) (defBody (top 30)) (defScope (top 30)) .none .none .none (.str "countkin.elders" 708) none (.ref 476) .none)), #[]⟩) :: (nat_lit 478, ⟨(.type "tuple"), none, (.seq #[] 0), #[]⟩) :: (nat_lit 481, ⟨(.type "code"), none, (.fields #[(.str "knots_with" 785), (.str "knots_with" 786), (.str "/claim/cut.py" 787), (.int 216 0), (.int 2 0), (.int 0 0), (.int 0 0), (.int 3 0), (.ref 478), (.bool true), (.int 181 0), (.ref 479), .none, .none, .none, (.ref 480), (.int 788 0), (.int 216 0), (.str "/claim/cut.py" 789)]), #[]⟩) :: (nat_lit 482, ⟨(.type "function"), none, (.func (fnOf "knots_with" "knots_with" (defArgs (top 32)) (defBody (top 32)) (defScope (top 32)) .none .none .none (.str "countkin.queues" 783) none (.ref 481) .none)), #[]⟩) :: (nat_lit 483, ⟨(.type "tuple"), none, (.seq #[] 0), #[]⟩) :: (nat_lit 486, ⟨(.type "code"), none, (.fields #[(.str "tree_to_cars" 791), (.str "tree_to_cars" 792), (.str "/claim/cut.py" 793), (.int 218 0), (.int 1 0), (.int 0 0), (.int 0 0), (.int 3 0), (.ref 483), (.bool true), (.int 181 0), (.ref 484), .none, .none, .none, (.ref 485), (.int 794 0), (.int 218 0), (.str "/claim/cut.py" 795)]), #[]⟩) :: (nat_lit 487, ⟨(.type "function"), none, (.func (fnOf "tree_to_cars" "tree_to_cars" (defArgs (top 33)) (defBody (top 33)) (defScope (top 33)) .none .none .none (.str "countkin.queues" 783) none (.ref 486) .none)), #[]⟩) :: (nat_lit 488, ⟨(.type "tuple"), none, (.seq #[] 0), #[]⟩) :: (nat_lit 491, ⟨(.type "code"), none, (.fields #[(.str "cars_to_tree" 797), (.str "cars_to_tree" 798), (.str "/claim/cut.py" 799), (.int 224 0), (.int 1 0), (.int 0 0), (.int 0 0), (.int 3 0), (.ref 488), (.bool true), (.int 181 0), (.ref 489), .none, .none, .none, (.ref 490), (.int 800 0), (.int 224 0), (.str "/claim/cut.py" 801)]), #[]⟩) :: (nat_lit 492, ⟨(.type "function"), none, (.func (fnOf "cars_to_tree" "cars_to_tree" (defArgs (top 34)) (defBody (top 34)) (defScope (top 34)) .none .none .none (.str "countkin.queues" 783) none (.ref 491) .none)), #[]⟩) :: (nat_lit 493, ⟨(.type "tuple"), none, (.seq #[] 0), #[]⟩) :: (nat_lit 495, ⟨(.type "tuple"), none, (.seq #[(.str "_law_script" 808), (.str "_law_k" 809)] 0), #[]⟩) :: (nat_lit 496, ⟨(.type "tuple"), none, (.seq #[] 0), #[]⟩) :: (nat_lit 498, ⟨(.type "code"), none, (.fields #[(.str "_law_cell_at" 805), (.str "_law_cell_at" 806), (.str "/claim/cut.py" 807), (.int 231 0), (.int 2 0), (.int 0 0), (.int 0 0), (.int 3 0), (.ref 493), (.bool true), (.int 181 0), (.ref 494), .none, (.ref 495), (.ref 496), (.ref 497), (.int 810 0), (.int 231 0), (.str "/claim/cut.py" 811)]), #[]⟩) :: (nat_lit 499, ⟨(.type "function"), none, (.func (fnOf "_law_cell_at" "_law_cell_at" (defArgs (top 36)) (defBody (top 36)) (defScope (top 36)) .none .none .none (.str "law_countkin_k39_rings_refuse" 803) none (.ref 498) .none)), #[]⟩) :: (nat_lit 500, ⟨(.type "tuple"), none, (.seq #[] 0), #[]⟩) :: (nat_lit 502, ⟨(.type "tuple"), none, (.seq #[(.str "_law_word" 816)] 0), #[]⟩) :: (nat_lit 503, ⟨(.type "tuple"), none, (.seq #[] 0), #[]⟩) :: (nat_lit 505, ⟨(.type "code"), none, (.fields #[(.str "_law_kin" 813), (.str "_law_kin" 814), (.str "/claim/cut.py" 815), (.int 235 0), (.int 1 0), (.int 0 0), (.int 0 0), (.int 3 0), (.ref 500), (.bool true), (.int 181 0), (.ref 501), .none, (.ref 502), (.ref 503), (.ref 504), (.int 817 0), (.int 235 0), (.str "/claim/cut.py" 818)]), #[]⟩) :: (nat_lit 506, ⟨(.type "function"), none, (.func (fnOf "_law_kin" "_law_kin" (defArgs (top 37)) (defBody (top 37)) (defScope (top 37)) .none .none .none (.str "law_countkin_k39_rings_refuse" 803) none (.ref 505) .none)), #[]⟩) :: (nat_lit 507, ⟨(.type "tuple"), none, (.seq #[] 0), #[]⟩) :: (nat_lit 509, ⟨(.type "tuple"), none, (.seq #[(.str "_law_error" 823), (.str "_law_found" 824)] 0), #[]⟩) :: (nat_lit 510, ⟨(.type "tuple"), none, (.seq #[] 0), #[]⟩) :: (nat_lit 512, ⟨(.type "code"), none, (.fields #[(.str "_law_classes" 820), (.str "_law_classes" 821), (.str "/claim/cut.py" 822), (.int 241 0), (.int 1 0), (.int 0 0), (.int 0 0), (.int 3 0), (.ref 507), (.bool true), (.int 181 0), (.ref 508), .none, (.ref 509), (.ref 510), (.ref 511), (.int 825 0), (.int 241 0), (.str "/claim/cut.py" 826)]), #[]⟩) :: (nat_lit 513, ⟨(.type "function"), none, (.func (fnOf "_law_classes" "_law_classes" (defArgs (top 38)) (defBody (top 38)) (defScope (top 38)) .none .none .none (.str "law_countkin_k39_rings_refuse" 803) none (.ref 512) .none)), #[]⟩) :: (nat_lit 514, ⟨(.type "tuple"), none, (.seq #[] 0), #[]⟩) :: (nat_lit 516, ⟨(.type "tuple"), none, (.seq #[(.str "_law_word" 831), (.str "_law_some" 832), (.str "_law_thing" 833)] 0), #[]⟩) :: (nat_lit 517, ⟨(.type "tuple"), none, (.seq #[] 0), #[]⟩) :: (nat_lit 519, ⟨(.type "code"), none, (.fields #[(.str "_law_asked" 828), (.str "_law_asked" 829), (.str "/claim/cut.py" 830), (.int 256 0), (.int 3 0), (.int 0 0), (.int 0 0), (.int 3 0), (.ref 514), (.bool true), (.int 181 0), (.ref 515), .none, (.ref 516), (.ref 517), (.ref 518), (.int 834 0), (.int 256 0), (.str "/claim/cut.py" 835)]), #[]⟩) :: (nat_lit 520, ⟨(.type "function"), none, (.func (fnOf "_law_asked" "_law_asked" (defArgs (top 39)) (defBody (top 39)) (defScope (top 39)) .none .none .none (.str "law_countkin_k39_rings_refuse" 803) none (.ref 519) .none)), #[]⟩) :: (nat_lit 521, ⟨(.type "tuple"), none, (.seq #[] 0), #[]⟩) :: (nat_lit 523, ⟨(.type "tuple"), none, (.seq #[(.str "_law_word" 840), (.str "_law_some" 841), (.str "_law_thing" 842), (.str "_law_caught" 843), (.str "e" 844)] 0), #[]⟩) :: (nat_lit 524, ⟨(.type "tuple"), none, (.seq #[] 0), #[]⟩) :: (nat_lit 526, ⟨(.type "code"), none, (.fields #[(.str "_law_refused" 837), (.str "_law_refused" 838), (.str "/claim/cut.py" 839), (.int 266 0), (.int 3 0), (.int 0 0), (.int 0 0), (.int 3 0), (.ref 521), (.bool true), (.int 181 0), (.ref 522), .none, (.ref 523), (.ref 524), (.ref 525), (.int 845 0), (.int 266 0), (.str "/claim/cut.py" 846)]), #[]⟩) :: (nat_lit 527, ⟨(.type "function"), none, (.func (fnOf "_law_refused" "_law_refused" (defArgs (top 40)) (defBody (top 40)) (defScope (top 40)) .none .none .none (.str "law_countkin_k39_rings_refuse" 803) none (.ref 526) .none)), #[]⟩) :: (nat_lit 528, ⟨(.type "tuple"), none, (.seq #[] 0), #[]⟩) :: (nat_lit 530, ⟨(.type "tuple"), none, (.seq #[(.str "_law_kin_here" 851), (.str "_law_size" 852), (.str "_law_caught" 853), (.str "e" 854)] 0), #[]⟩) :: (nat_lit 531, ⟨(.type "tuple"), none, (.seq #[] 0), #[]⟩) :: (nat_lit 533, ⟨(.type "code"), none, (.fields #[(.str "_law_size_refused" 848), (.str "_law_size_refused" 849), (.str "/claim/cut.py" 850), (.int 273 0), (.int 2 0), (.int 0 0), (.int 0 0), (.int 3 0), (.ref 528), (.bool true), (.int 181 0), (.ref 529), .none, (.ref 530), (.ref 531), (.ref 532), (.int 855 0), (.int 273 0), (.str "/claim/cut.py" 856)]), #[]⟩) :: (nat_lit 534, ⟨(.type "function"), none, (.func (fnOf "_law_size_refused" "_law_size_refused" (defArgs (top 41)) (defBody (top 41)) (defScope (top 41)) .none .none .none (.str "law_countkin_k39_rings_refuse" 803) none (.ref 533) .none)), #[]⟩) :: (nat_lit 535, ⟨(.type "tuple"), none, (.seq #[] 0), #[]⟩) :: (nat_lit 537, ⟨(.type "tuple"), none, (.seq #[(.str "_law_kin_here" 861), (.str "_law_size" 862), (.str "_law_number" 863), (.str "_law_caught" 864), (.str "e" 865)] 0), #[]⟩) :: (nat_lit 538, ⟨(.type "tuple"), none, (.seq #[] 0), #[]⟩) :: (nat_lit 540, ⟨(.type "code"), none, (.fields #[(.str "_law_number_refused" 858), (.str "_law_number_refused" 859), (.str "/claim/cut.py" 860), (.int 280 0), (.int 3 0), (.int 0 0), (.int 0 0), (.int 3 0), (.ref 535), (.bool true), (.int 181 0), (.ref 536), .none, (.ref 537), (.ref 538), (.ref 539), (.int 866 0), (.int 280 0), (.str "/claim/cut.py" 867)]), #[]⟩) :: (nat_lit 541, ⟨(.type "function"), none, (.func (fnOf "_law_number_refused" "_law_number_refused" (defArgs (top 42)) (defBody (top 42)) (defScope (top 42)) .none .none .none (.str "law_countkin_k39_rings_refuse" 803) none (.ref 540) .none)), #[]⟩) :: (nat_lit 542, ⟨(.type "tuple"), none, (.seq #[] 0), #[]⟩) :: (nat_lit 544, ⟨(.type "tuple"), none, (.seq #[(.str "_law_word" 872), (.str "_law_size" 873), (.str "_law_far" 874), (.str "_law_some" 875), (.str "_law_row" 876), (.str "_law_at" 877)] 0), #[]⟩) :: (nat_lit 545, ⟨(.type "tuple"), none, (.seq #[] 0), #[]⟩) :: (nat_lit 547, ⟨(.type "code"), none, (.fields #[(.str "_law_amiss" 869), (.str "_law_amiss" 870), (.str "/claim/cut.py" 871), (.int 287 0), (.int 4 0), (.int 0 0), (.int 0 0), (.int 3 0), (.ref 542), (.bool true), (.int 181 0), (.ref 543), .none, (.ref 544), (.ref 545), (.ref 546), (.int 878 0), (.int 287 0), (.str "/claim/cut.py" 879)]), #[]⟩) :: (nat_lit 548, ⟨(.type "function"), none, (.func (fnOf "_law_amiss" "_law_amiss" (defArgs (top 43)) (defBody (top 43)) (defScope (top 43)) .none .none .none (.str "law_countkin_k39_rings_refuse" 803) none (.ref 547) .none)), #[]⟩) :: (nat_lit 549, ⟨(.type "tuple"), none, (.seq #[] 0), #[]⟩) :: (nat_lit 551, ⟨(.type "tuple"), none, (.seq #[(.str "_law_script" 884), (.str "_law_word" 885), (.str "_law_size" 886), (.str "_law_far" 887), (.str "_law_thing" 888), (.str "_law_handed" 889), (.str "_law_some" 890), (.str "_law_kin_here" 891), (.str "_law_many" 892), (.str "_law_k" 893), (.str "_law_none" 894), (.str "_law_good" 895)] 0), #[]⟩) :: (nat_lit 552, ⟨(.type "tuple"), none, (.seq #[] 0), #[]⟩) :: (nat_lit 554, ⟨(.type "code"), none, (.fields #[(.str "law" 881), (.str "law" 882), (.str "/claim/cut.py" 883), (.int 298 0), (.int 1 0), (.int 0 0), (.int 0 0), (.int 3 0), (.ref 549), (.bool true), (.int 181 0), (.ref 550), .none, (.ref 551), (.ref 552), (.ref 553), (.int 896 0), (.int 298 0), (.str "/claim/cut.py" 897)]), #[]⟩) :: (nat_lit 555, ⟨(.type "function"), none, (.func (fnOf "law" "law" (defArgs (top 44)) (defBody (top 44)) (defScope (top 44)) .none .none .none (.str "law_countkin_k39_rings_refuse" 803) none (.ref 554) .none)), #[]⟩) :: []
noncomputable def hA : List Addr := (2 :: 3 :: 15 :: 17 :: 18 :: 20 :: 21 :: 22 :: 29 :: 30 :: 31 :: 32 :: 35 :: 42 :: 43 :: 44 :: 47 :: 54 :: 55 :: 56 :: 59 :: 66 :: 67 :: 68 :: 71 :: 78 :: 79 :: 80 :: 83 :: 90 :: 91 :: 92 :: 95 :: 102 :: 103 :: 104 :: 107 :: 114 :: 115 :: 116 :: 119 :: 126 :: 127 :: 128 :: 131 :: 138 :: 140 :: 141 :: 143 :: 144 :: 145 :: 146 :: 147 :: 157 :: 159 :: 160 :: 162 :: 163 :: 164 :: 166 :: 167 :: 169 :: 170 :: 171 :: 173 :: 174 :: 176 :: 177 :: 178 :: 180 :: 181 :: 183 :: 184 :: 185 :: 187 :: 188 :: 190 :: 191 :: 192 :: 194 :: 195 :: 197 :: 198 :: 199 :: 201 :: 202 :: 204 :: 205 :: 206 :: 208 :: 209 :: 211 :: 212 :: 213 :: 215 :: 216 :: 218 :: 219 :: 220 :: 222 :: 223 :: 225 :: 226 :: 227 :: 229 :: 230 :: 232 :: 233 :: 234 :: 235 :: 236 :: 237 :: 238 :: 241 :: 248 :: 250 :: 251 :: 253 :: 254 :: 255 :: 257 :: 258 :: 260 :: 261 :: 262 :: 264 :: 265 :: 267 :: 268 :: 269 :: 271 :: 272 :: 274 :: 275 :: 276 :: 278 :: 279 :: 281 :: 282 :: 283 :: 285 :: 286 :: 288 :: 289 :: 290 :: 291 :: 292 :: 295 :: 297 :: 298 :: 300 :: 301 :: 302 :: 304 :: 305 :: 307 :: 308 :: 309 :: 316 :: 318 :: 319 :: 321 :: 322 :: 323 :: 325 :: 326 :: 328 :: 329 :: 330 :: 333 :: 334 :: 335 :: 337 :: 338 :: 340 :: 341 :: 342 :: 344 :: 345 :: 347 :: 348 :: 349 :: 350 :: 351 :: 354 :: 361 :: 363 :: 364 :: 366 :: 367 :: 368 :: 370 :: 371 :: 373 :: 374 :: 375 :: 378 :: 379 :: 380 :: 383 :: 384 :: 385 :: 388 :: 389 :: 390 :: 391 :: 392 :: 395 :: 397 :: 398 :: 400 :: 401 :: 402 :: 404 :: 405 :: 407 :: 408 :: 409 :: 411 :: 412 :: 414 :: 415 :: 416 :: 423 :: 425 :: 426 :: 428 :: 429 :: 430 :: 432 :: 433 :: 435 :: 436 :: 437 :: 440 :: 441 :: 442 :: 445 :: 446 :: 447 :: 450 :: 451 :: 452 :: 453 :: 454 :: 457 :: 459 :: 460 :: 462 :: 463 :: 464 :: 466 :: 467 :: 469 :: 470 :: 471 :: 473 :: 474 :: 476 :: 477 :: 478 :: 481 :: 482 :: 483 :: 486 :: 487 :: 488 :: 491 :: 492 :: 493 :: 495 :: 496 :: 498 :: 499 :: 500 :: 502 :: 503 :: 505 :: 506 :: 507 :: 509 :: 510 :: 512 :: 513 :: 514 :: 516 :: 517 :: 519 :: 520 :: 521 :: 523 :: 524 :: 526 :: 527 :: 528 :: 530 :: 531 :: 533 :: 534 :: 535 :: 537 :: 538 :: 540 :: 541 :: 542 :: 544 :: 545 :: 547 :: 548 :: 549 :: 551 :: 552 :: 554 :: 555 :: [])
noncomputable abbrev hX : Shared → Bool := (fun s => xlAt hQ [] s && recOk (RowW.records (OpenRow.toRowW (OpenLaw.row PySem.Challenge.rw_countkin_k39_rings_refuse))) s)
theorem hKA : ∀ P : Params, hA = (hK P).map (·.1) := fun _ => by kernel_rfl
noncomputable abbrev hH : Hook := kHook hK hA hKA
noncomputable def hLook (P : Params) (s : Shared) := ((staticsOk (importedModules PySem.Challenge.pw_countkin_k39_rings_refuse.main.body) (boot_heap P) s.heap && namesBound PySem.Challenge.pw_countkin_k39_rings_refuse s.heap && gensDone s && laidKept (boot_heap P) s.heap), openSeen hQ hL (importedModules PySem.Challenge.pw_countkin_k39_rings_refuse.main.body) hX true s, hA.map s.heap.get?)
noncomputable def hPreF (w : World) (os : OsState) := topGo treeTable PySem.Challenge.pw_countkin_k39_rings_refuse w 11 (some (.ref 6)) 12 ⟨boot_heap w.params, Array.mk [], boot_drawn, boot_toks, os⟩ (topStub PySem.Challenge.pw_countkin_k39_rings_refuse)
noncomputable def hPreG (w : World) (os : OsState) : Option (Shared × Thread) := some ((hS w os).abs, ⟨denote treeTable hC, hC, ⟨0, 0, 0, 0⟩, [topFrame ⟨0, 0, 0, 0⟩]⟩)
noncomputable def hBlkF (w : World) (os : OsState) := segRun treeTable PySem.Challenge.pw_countkin_k39_rings_refuse w 11 (some (.ref 6)) 1 1 (hS w os).abs (blockOf hB hE hC ⟨0, 0, 0, 0⟩ [topFrame ⟨0, 0, 0, 0⟩])
noncomputable def hBlkG (w : World) (os : OsState) : Option (Flow × Shared × Code × Pos) := some (.next, (hS w os).abs, hC, ⟨0, 0, 0, 0⟩)
noncomputable def hRunF (w : World) (os : OsState) := (segRunT treeTable PySem.Challenge.pw_countkin_k39_rings_refuse w 11 (some (.ref 6)) 1 4945 (hS w os) (piecesOf hB hE hC ⟨0, 0, 0, 0⟩ [topFrame ⟨0, 0, 0, 0⟩])).map (lookEnd treeTable PySem.Challenge.pw_countkin_k39_rings_refuse w 11 (some (.ref 6)) ⟨0, 0, 0, 0⟩ hC 2 (hLook w.params))
noncomputable def hRunG (w : World) (_ : OsState) := some (Flow.next, hC, some (true, openGood hQ hL, (hK w.params).map fun p => some p.2))
noncomputable def hSizF (w : World) := ((boot_heap w.params).isNs mainGlobals && (Array.mk [] : Array GenState).size == 0, (boot_heap w.params).objs.size, (boot_heap w.params).nsMap mainGlobals "__annotations__")
noncomputable def hSizG (_ : World) : Bool × Nat × Option Value := (true, 11, (some (.ref 6)))
theorem hSeed : (fun _ _ _ _ _ _ _ _ => true) hPreF hPreG hBlkF hBlkG hRunF hRunG hSizF hSizG = true := by k_qdec
theorem hPre : hPreF = hPreG := Eq.trans PySem.W.Fast.te5317814654954331368 (Eq.trans (by kernel_rfl) (Eq.symm PySem.W.Fast.te14277440360295502494))
theorem hBlk : hBlkF = hBlkG := Eq.trans PySem.W.Fast.te2033988648308832629 (Eq.trans (by kernel_rfl) (Eq.symm PySem.W.Fast.te1798457917166677164))
theorem hRun : hRunF = hRunG := Eq.trans PySem.W.Fast.te6412348297585774662 (Eq.trans (by kernel_rfl) (Eq.symm PySem.W.Fast.te15447895654253735931))
theorem hSiz : hSizF = hSizG := Eq.trans PySem.W.Fast.te13693962943478796877 (by kernel_rfl)
theorem hLeft : LeftO PySem.Challenge.pw_countkin_k39_rings_refuse hQ hL hX (Hook.obs hH) (Hook.val hH) 10014 :=
  left_whole (boot_open (by kernel_rfl) (by decide) (fun _ => by kernel_rfl)) (fun w => congrFun hSiz w)
    (fun w os => run_whole (b := hB) (env := hE) (L := hLook w.params) rfl (congrFun (congrFun hPre w) os) (congrFun (congrFun hBlk w) os) (congrFun (congrFun hRun w) os)) (by decide)
end Ck
open PySem PySem.W PyProof.Rows
set_option maxRecDepth 100000 in
set_option maxHeartbeats 0 in
theorem PySem.Challenge.cw_countkin_k39_rings_refuse_holds : PySem.Challenge.rw_countkin_k39_rings_refuse.Holds := by
  w_on; o_law
  refine holds_open (q := Ck.hQ) (loose := Ck.hL) (Xt := Ck.hX) (XP := XL Ck.hQ []) (Yf := Hook.obs (kHook Ck.hK Ck.hA Ck.hKA)) (Ya := Hook.val (kHook Ck.hK Ck.hA Ck.hKA)) (YP := Hook.says (kHook Ck.hK Ck.hA Ck.hKA)) (N := 10014) Ck.hLeft (Hook.of (kHook Ck.hK Ck.hA Ck.hKA)) (Hook.keeps (kHook Ck.hK Ck.hA Ck.hKA))
    (fun s e => xl_of s (Bool.and_eq_true_iff.mp e).1) XL.keeps (by rfl) (by rfl) (by rfl) (fun s e => recFacts_of (Bool.and_eq_true_iff.mp e).2) (by rfl) (by first | assumption | decide +kernel) (by decide +kernel) ⟨rfl, rfl, rfl, rfl, rfl, by decide +kernel⟩ ?hw ?hc
  case hw => w_witness2
  k_fill
  refine Ck.walk (l := PySem.Challenge.rw_countkin_k39_rings_refuse) rfl rfl (fun w h Y => PySem.W.kIn_of Y) ?F
  case F =>
    intro w mg fa h KX G hmg
    refine' Ck.all_mk KX G hmg ?nc_Family ?nc_Codes ?nc_Trees ?nc_Cars ?nc_RingFamily ?a_Codes_thing_of ?a_Trees_thing_of ?a_Cars_thing_of ?a_Codes_size_of ?a_Trees_size_of ?a_Cars_size_of ?a_Codes_is_one ?a_Trees_is_one ?a_Cars_is_one ?a_Codes_number_of ?a_Trees_number_of ?a_Cars_number_of ?a_Codes_next_of ?a_Trees_next_of ?a_Cars_next_of ?a_Codes_refuse_other ?a_Trees_refuse_other ?a_Cars_refuse_other ?a_Cars_many ?a_Trees_many ?a_Codes_many ?a_Cars_unchecked_many ?a_Trees_unchecked_many ?a_Codes_unchecked_many ?a_Cars_unchecked_thing ?a_Cars_of_code ?a_Trees_unchecked_thing ?a_Trees_of_code ?a_Codes_unchecked_thing ?a_Codes_of_code ?ai_Codes ?ai_Trees ?ai_Cars ?ch_RingFamily___init___Codes ?cg_RingFamily___init___Codes ?cr_RingFamily___init___Codes ?ch_Family___init___Codes ?cg_Family___init___Codes ?cr_Family___init___Codes ?ch_RingFamily___init___Trees ?cg_RingFamily___init___Trees ?cr_RingFamily___init___Trees ?ch_Family___init___Trees ?cg_Family___init___Trees ?cr_Family___init___Trees ?ch_RingFamily___init___Cars ?cg_RingFamily___init___Cars ?cr_RingFamily___init___Cars ?ch_Family___init___Cars ?cg_Family___init___Cars ?cr_Family___init___Cars ?a1 ?l1 ?c1 ?k1 ?a2 ?l2 ?c2 ?k2 ?l3 ?c3 ?k3 ?i3 ?l4 ?c4 ?k4 ?i4 ?l5 ?c5 ?k5 ?i5 ?l6 ?c6 ?k6 ?i6 ?l7 ?c7 ?k7 ?i7 ?l8 ?c8 ?k8 ?i8 ?l9 ?c9 ?k9 ?i9 ?l10 ?c10 ?k10 ?i10 ?l11 ?c11 ?k11 ?i11 ?a12 ?l12 ?c12 ?k12 ?l13 ?c13 ?k13 ?i13 ?l14 ?c14 ?k14 ?i14 ?l15 ?c15 ?k15 ?i15 ?a16 ?l16 ?c16 ?k16 ?l17 ?c17 ?k17 ?i17 ?l18 ?c18 ?k18 ?i18 ?l19 ?c19 ?k19 ?i19 ?l20 ?c20 ?k20 ?i20 ?l21 ?c21 ?k21 ?i21 ?l22 ?c22 ?k22 ?i22 ?l23 ?c23 ?k23 ?i23 ?l24 ?c24 ?k24 ?i24 ?l25 ?c25 ?k25 ?i25 ?a26 ?l26 ?c26 ?k26 ?a27 ?l27 ?c27 ?k27 ?a28 ?l28 ?c28 ?k28 ?a29 ?l29 ?c29 ?k29 ?a30 ?l30 ?c30 ?k30 ?a31 ?l31 ?c31 ?k31 ?a32 ?l32 ?c32 ?k32 ?a33 ?l33 ?c33 ?k33 ?a34 ?l34 ?c34 ?k34 ?a35 ?l35 ?c35 ?k35 ?a36 ?l36 ?c36 ?k36 ?l37 ?c37 ?k37 ?i37 ?l38 ?c38 ?k38 ?i38 ?l39 ?c39 ?k39 ?i39 ?l40 ?c40 ?k40 ?i40 ?l41 ?c41 ?k41 ?i41 ?l42 ?c42 ?k42 ?i42 ?a43 ?l43 ?c43 ?k43 ?l44 ?c44 ?k44 ?i44 ?a45 ?l45 ?c45 ?k45 ?l46 ?c46 ?k46 ?i46 ?l47 ?c47 ?k47 ?i47 ?l48 ?c48 ?k48 ?i48 ?l49 ?c49 ?k49 ?i49 ?l50 ?c50 ?k50 ?i50 ?l51 ?c51 ?k51 ?i51 ?l52 ?c52 ?k52 ?i52 ?l53 ?c53 ?k53 ?i53 ?a54 ?l54 ?c54 ?k54 ?l55 ?c55 ?k55 ?i55 ?l56 ?c56 ?k56 ?i56 ?l57 ?c57 ?k57 ?i57 ?a58 ?l58 ?c58 ?k58 ?pg_Codes ?hd_Codes ?po_Codes ?sa_Codes ?pg_Trees ?hd_Trees ?po_Trees ?sa_Trees ?pg_Cars ?hd_Cars ?po_Cars ?sa_Cars ?mk_Codes ?kc_Codes ?mk_Trees ?kc_Trees ?mk_Cars ?kc_Cars ?na_Codes_word ?na_Codes_least ?na_Trees_word ?na_Trees_least ?na_Cars_word ?na_Cars_least ?ia_Codes ?im_Codes ?ia_Trees ?im_Trees ?ia_Cars ?im_Cars ?in_get ?in_tk ?ki_Codes_Family ?ki_Trees_Family ?ki_Cars_Family ?z_len ?z_int ?z_all ?z_range ?z_min ?z_sorted ?z_enumerate ?z_isinstance ?z_ValueError ?z_list ?y_GREATEST_SIZE ?n_kin ?n_size ?n_number ?n_thing ?n_family ?n_way ?n_apart ?n_mark ?n_text ?n_broken ?t_err
    (case nc_Family => k_is)
    (case nc_Codes => k_is)
    (case nc_Trees => k_is)
    (case nc_Cars => k_is)
    (case nc_RingFamily => k_is)
    (case a_Codes_thing_of => k_is)
    (case a_Trees_thing_of => k_is)
    (case a_Cars_thing_of => k_is)
    (case a_Codes_size_of => k_is)
    (case a_Trees_size_of => k_is)
    (case a_Cars_size_of => k_is)
    (case a_Codes_is_one => k_is)
    (case a_Trees_is_one => k_is)
    (case a_Cars_is_one => k_is)
    (case a_Codes_number_of => k_is)
    (case a_Trees_number_of => k_is)
    (case a_Cars_number_of => k_is)
    (case a_Codes_next_of => k_is)
    (case a_Trees_next_of => k_is)
    (case a_Cars_next_of => k_is)
    (case a_Codes_refuse_other => k_is)
    (case a_Trees_refuse_other => k_is)
    (case a_Cars_refuse_other => k_is)
    (case a_Cars_many => k_is)
    (case a_Trees_many => k_is)
    (case a_Codes_many => k_is)
    (case a_Cars_unchecked_many => k_is)
    (case a_Trees_unchecked_many => k_is)
    (case a_Codes_unchecked_many => k_is)
    (case a_Cars_unchecked_thing => k_is)
    (case a_Cars_of_code => k_is)
    (case a_Trees_unchecked_thing => k_is)
    (case a_Trees_of_code => k_is)
    (case a_Codes_unchecked_thing => k_is)
    (case a_Codes_of_code => k_is)
    (case ai_Codes => k_is)
    (case ai_Trees => k_is)
    (case ai_Cars => k_is)
    (case ch_RingFamily___init___Codes => k_is)
    (case cg_RingFamily___init___Codes => k_is)
    (case cr_RingFamily___init___Codes => k_is)
    (case ch_Family___init___Codes => k_is)
    (case cg_Family___init___Codes => k_is)
    (case cr_Family___init___Codes => k_is)
    (case ch_RingFamily___init___Trees => k_is)
    (case cg_RingFamily___init___Trees => k_is)
    (case cr_RingFamily___init___Trees => k_is)
    (case ch_Family___init___Trees => k_is)
    (case cg_Family___init___Trees => k_is)
    (case cr_Family___init___Trees => k_is)
    (case ch_RingFamily___init___Cars => k_is)
    (case cg_RingFamily___init___Cars => k_is)
    (case cr_RingFamily___init___Cars => k_is)
    (case ch_Family___init___Cars => k_is)
    (case cg_Family___init___Cars => k_is)
    (case cr_Family___init___Cars => k_is)
    (case a1 => k_is)
    (case l1 => k_is)
    (case c1 => k_is)
    (case k1 => k_is)
    (case a2 => k_is)
    (case l2 => k_is)
    (case c2 => k_is)
    (case k2 => k_is)
    (case l3 => k_is)
    (case c3 => k_is)
    (case k3 => k_is)
    (case i3 => k_is)
    (case l4 => k_is)
    (case c4 => k_is)
    (case k4 => k_is)
    (case i4 => k_is)
    (case l5 => k_is)
    (case c5 => k_is)
    (case k5 => k_is)
    (case i5 => k_is)
    (case l6 => k_is)
    (case c6 => k_is)
    (case k6 => k_is)
    (case i6 => k_is)
    (case l7 => k_is)
    (case c7 => k_is)
    (case k7 => k_is)
    (case i7 => k_is)
    (case l8 => k_is)
    (case c8 => k_is)
    (case k8 => k_is)
    (case i8 => k_is)
    (case l9 => k_is)
    (case c9 => k_is)
    (case k9 => k_is)
    (case i9 => k_is)
    (case l10 => k_is)
    (case c10 => k_is)
    (case k10 => k_is)
    (case i10 => k_is)
    (case l11 => k_is)
    (case c11 => k_is)
    (case k11 => k_is)
    (case i11 => k_is)
    (case a12 => k_is)
    (case l12 => k_is)
    (case c12 => k_is)
    (case k12 => k_is)
    (case l13 => k_is)
    (case c13 => k_is)
    (case k13 => k_is)
    (case i13 => k_is)
    (case l14 => k_is)
    (case c14 => k_is)
    (case k14 => k_is)
    (case i14 => k_is)
    (case l15 => k_is)
    (case c15 => k_is)
    (case k15 => k_is)
    (case i15 => k_is)
    (case a16 => k_is)
    (case l16 => k_is)
    (case c16 => k_is)
    (case k16 => k_is)
    (case l17 => k_is)
    (case c17 => k_is)
    (case k17 => k_is)
    (case i17 => k_is)
    (case l18 => k_is)
    (case c18 => k_is)
    (case k18 => k_is)
    (case i18 => k_is)
    (case l19 => k_is)
    (case c19 => k_is)
    (case k19 => k_is)
    (case i19 => k_is)
    (case l20 => k_is)
    (case c20 => k_is)
    (case k20 => k_is)
    (case i20 => k_is)
    (case l21 => k_is)
    (case c21 => k_is)
    (case k21 => k_is)
    (case i21 => k_is)
    (case l22 => k_is)
    (case c22 => k_is)
    (case k22 => k_is)
    (case i22 => k_is)
    (case l23 => k_is)
    (case c23 => k_is)
    (case k23 => k_is)
    (case i23 => k_is)
    (case l24 => k_is)
    (case c24 => k_is)
    (case k24 => k_is)
    (case i24 => k_is)
    (case l25 => k_is)
    (case c25 => k_is)
    (case k25 => k_is)
    (case i25 => k_is)
    (case a26 => k_is)
    (case l26 => k_is)
    (case c26 => k_is)
    (case k26 => k_is)
    (case a27 => k_is)
    (case l27 => k_is)
    (case c27 => k_is)
    (case k27 => k_is)
    (case a28 => k_is)
    (case l28 => k_is)
    (case c28 => k_is)
    (case k28 => k_is)
    (case a29 => k_is)
    (case l29 => k_is)
    (case c29 => k_is)
    (case k29 => k_is)
    (case a30 => k_is)
    (case l30 => k_is)
    (case c30 => k_is)
    (case k30 => k_is)
    (case a31 => k_is)
    (case l31 => k_is)
    (case c31 => k_is)
    (case k31 => k_is)
    (case a32 => k_is)
    (case l32 => k_is)
    (case c32 => k_is)
    (case k32 => k_is)
    (case a33 => k_is)
    (case l33 => k_is)
    (case c33 => k_is)
    (case k33 => k_is)
    (case a34 => k_is)
    (case l34 => k_is)
    (case c34 => k_is)
    (case k34 => k_is)
    (case a35 => k_is)
    (case l35 => k_is)
    (case c35 => k_is)
    (case k35 => k_is)
    (case a36 => k_is)
    (case l36 => k_is)
    (case c36 => k_is)
    (case k36 => k_is)
    (case l37 => k_is)
    (case c37 => k_is)
    (case k37 => k_is)
    (case i37 => k_is)
    (case l38 => k_is)
    (case c38 => k_is)
    (case k38 => k_is)
    (case i38 => k_is)
    (case l39 => k_is)
    (case c39 => k_is)
    (case k39 => k_is)
    (case i39 => k_is)
    (case l40 => k_is)
    (case c40 => k_is)
    (case k40 => k_is)
    (case i40 => k_is)
    (case l41 => k_is)
    (case c41 => k_is)
    (case k41 => k_is)
    (case i41 => k_is)
    (case l42 => k_is)
    (case c42 => k_is)
    (case k42 => k_is)
    (case i42 => k_is)
    (case a43 => k_is)
    (case l43 => k_is)
    (case c43 => k_is)
    (case k43 => k_is)
    (case l44 => k_is)
    (case c44 => k_is)
    (case k44 => k_is)
    (case i44 => k_is)
    (case a45 => k_is)
    (case l45 => k_is)
    (case c45 => k_is)
    (case k45 => k_is)
    (case l46 => k_is)
    (case c46 => k_is)
    (case k46 => k_is)
    (case i46 => k_is)
    (case l47 => k_is)
    (case c47 => k_is)
    (case k47 => k_is)
    (case i47 => k_is)
    (case l48 => k_is)
    (case c48 => k_is)
    (case k48 => k_is)
    (case i48 => k_is)
    (case l49 => k_is)
    (case c49 => k_is)
    (case k49 => k_is)
    (case i49 => k_is)
    (case l50 => k_is)
    (case c50 => k_is)
    (case k50 => k_is)
    (case i50 => k_is)
    (case l51 => k_is)
    (case c51 => k_is)
    (case k51 => k_is)
    (case i51 => k_is)
    (case l52 => k_is)
    (case c52 => k_is)
    (case k52 => k_is)
    (case i52 => k_is)
    (case l53 => k_is)
    (case c53 => k_is)
    (case k53 => k_is)
    (case i53 => k_is)
    (case a54 => k_is)
    (case l54 => k_is)
    (case c54 => k_is)
    (case k54 => k_is)
    (case l55 => k_is)
    (case c55 => k_is)
    (case k55 => k_is)
    (case i55 => k_is)
    (case l56 => k_is)
    (case c56 => k_is)
    (case k56 => k_is)
    (case i56 => k_is)
    (case l57 => k_is)
    (case c57 => k_is)
    (case k57 => k_is)
    (case i57 => k_is)
    (case a58 => k_is)
    (case l58 => k_is)
    (case c58 => k_is)
    (case k58 => k_is)
    (case pg_Codes => k_is)
    (case hd_Codes => k_is)
    (case po_Codes => k_is)
    (case sa_Codes => k_is)
    (case pg_Trees => k_is)
    (case hd_Trees => k_is)
    (case po_Trees => k_is)
    (case sa_Trees => k_is)
    (case pg_Cars => k_is)
    (case hd_Cars => k_is)
    (case po_Cars => k_is)
    (case sa_Cars => k_is)
    (case mk_Codes => k_is)
    (case kc_Codes => k_is)
    (case mk_Trees => k_is)
    (case kc_Trees => k_is)
    (case mk_Cars => k_is)
    (case kc_Cars => k_is)
    (case na_Codes_word => k_is)
    (case na_Codes_least => k_is)
    (case na_Trees_word => k_is)
    (case na_Trees_least => k_is)
    (case na_Cars_word => k_is)
    (case na_Cars_least => k_is)
    (case ia_Codes => k_is)
    (case im_Codes => k_is)
    (case ia_Trees => k_is)
    (case im_Trees => k_is)
    (case ia_Cars => k_is)
    (case im_Cars => k_is)
    (case in_get => k_is)
    (case in_tk => k_is)
    (case ki_Codes_Family => kernel_rfl)
    (case ki_Trees_Family => kernel_rfl)
    (case ki_Cars_Family => kernel_rfl)
    (case z_len => k_is)
    (case z_int => k_is)
    (case z_all => k_is)
    (case z_range => k_is)
    (case z_min => k_is)
    (case z_sorted => k_is)
    (case z_enumerate => k_is)
    (case z_isinstance => k_is)
    (case z_ValueError => k_is)
    (case z_list => k_is)
    (case y_GREATEST_SIZE => k_is)
    (case n_kin => k_is)
    (case n_size => k_is)
    (case n_number => k_is)
    (case n_thing => k_is)
    (case n_family => k_is)
    (case n_way => k_is)
    (case n_apart => k_is)
    (case n_mark => k_is)
    (case n_text => k_is)
    (case n_broken => k_is)
    (case t_err => kernel_rfl)

