import PyProof.Rows.All
import Wide.All
import OpenK.AllK
import Wide.FinOn
import Lean
import PyProof.EqAt
import PyProof.EqKinds
import PyProof.TupleCall
import KE.KMinBuiltin
import KE.KRevSl
import KE.KSortTup
import KE.KTryMore
import Open.Pieces
import OpenK.KQuick
import OpenK.KWalk
import PyProof.CollectWalk
import PyProof.ExcAttrAll.ValueError
import PyProof.FitsBits
import PyProof.ListRange
import PyProof.NeKinds
import PyProof.Rows.SortRuns
import PyProof.ZipIter
import PySem.Challenge.RW_countkin_k16_rooms_looked_at
set_option Elab.async false
set_option linter.all false
set_option maxRecDepth 100000
namespace L2
open PySem PySem.Spec PyProof.Rows
noncomputable abbrev Key := Sum Int Str
noncomputable def keyIs : Key → Value → Bool
  | .inl k, v => Value.isInt k v
  | .inr x, v => Value.isStrOf x v
noncomputable def keyH (w : World) : Key → Int
  | .inl k => hashInt k
  | .inr x => hashStr w x
theorem keyIs_shape : ∀ {k : Key} {v : Value}, keyIs k v = true → (∃ i t, k = Sum.inl i ∧ v = Value.int i t) ∨ (∃ x t, k = Sum.inr x ∧ v = Value.str x t)
  | .inl i, v, h => by
    obtain ⟨t, e⟩ := Value.isInt_shape (k := i) (v := v) h
    exact .inl ⟨i, t, rfl, e⟩
  | .inr x, v, h => by
    obtain ⟨t, e⟩ := Value.isStrOf_shape (x := x) (v := v) h
    exact .inr ⟨x, t, rfl, e⟩
theorem keyIs_int (i : Int) (t : Tok) : keyIs (.inl i) (.int i t) = true := by simp [keyIs, Value.isInt]
theorem keyIs_str (x : Str) (t : Tok) : keyIs (.inr x) (.str x t) = true := by simp [keyIs, Value.isStrOf]
theorem key_ll (a b : Int) : decide ((Sum.inl a : Key) = Sum.inl b) = (a == b) := by
  by_cases e : a = b
  · subst e; simp
  · have h : ¬ (Sum.inl a : Key) = Sum.inl b := fun q => e (Sum.inl.inj q)
    rw [decide_eq_false h]
    exact (beq_eq_false_iff_ne.mpr e).symm
theorem key_rr (a b : Str) : decide ((Sum.inr a : Key) = Sum.inr b) = decide (a = b) := by
  by_cases e : a = b
  · subst e; simp
  · have h : ¬ (Sum.inr a : Key) = Sum.inr b := fun q => e (Sum.inr.inj q)
    rw [decide_eq_false h, decide_eq_false e]
theorem key_lr (a : Int) (b : Str) : decide ((Sum.inl a : Key) = Sum.inr b) = false := decide_eq_false (fun q => nomatch q)
theorem key_rl (a : Str) (b : Int) : decide ((Sum.inr a : Key) = Sum.inl b) = false := decide_eq_false (fun q => nomatch q)
noncomputable def mixKind (prog : Program) (w : World) : PySem.KeyKind prog w Key where
  is := keyIs
  hash := keyH w
  inj := fun v a b ha hb => by
    rcases keyIs_shape ha with ⟨i, t, rfl, rfl⟩ | ⟨x, t, rfl, rfl⟩
    · rcases keyIs_shape hb with ⟨j, u, rfl, e⟩ | ⟨y, u, rfl, e⟩
      · injection e with e1 _; rw [e1]
      · exact nomatch e
    · rcases keyIs_shape hb with ⟨j, u, rfl, e⟩ | ⟨y, u, rfl, e⟩
      · exact nomatch e
      · injection e with e1 _; rw [e1]
  byValue := fun k v h => by
    rcases keyIs_shape h with ⟨i, t, rfl, rfl⟩ | ⟨x, t, rfl, rfl⟩ <;> rfl
  pyHash := fun hv h => by
    rcases keyIs_shape hv with ⟨i, t, rfl, rfl⟩ | ⟨x, t, rfl, rfl⟩
    · exact wpAny_pyHash_int h
    · exact wpAny_pyHash_str h
  eqBool := fun hu hv h => by
    rcases keyIs_shape hu with ⟨i, t, rfl, rfl⟩ | ⟨x, t, rfl, rfl⟩
    · rcases keyIs_shape hv with ⟨j, u, rfl, rfl⟩ | ⟨y, u, rfl, rfl⟩
      · rw [key_ll] at h; exact wpAny_eqBool_int h
      · rw [key_lr] at h; exact SeqAt.EqAt.int_str i t y u _ _ _ _ h
    · rcases keyIs_shape hv with ⟨j, u, rfl, rfl⟩ | ⟨y, u, rfl, rfl⟩
      · rw [key_rl] at h; exact SeqAt.EqAt.str_int x t j u _ _ _ _ h
      · rw [key_rr] at h; exact wpAny_eqBool_str h
  «strs» := fun k x t v h => by
    rcases keyIs_shape h with ⟨i, u, rfl, e⟩ | ⟨y, u, rfl, e⟩
    · exact nomatch e
    · injection e with e1 _
      subst e1
      cases v <;> rfl
theorem mixKind_int (prog : Program) (w : World) (i : Int) (t : Tok) : (mixKind prog w).is (.inl i) (.int i t) = true := keyIs_int i t
theorem mixKind_str (prog : Program) (w : World) (x : Str) (t : Tok) : (mixKind prog w).is (.inr x) (.str x t) = true := keyIs_str x t
end L2
namespace L2
open PySem PySem.Spec PyProof.Rows
inductive V where
  | non | bl (b : Bool) | int (i : Int) | str (x : Str) | byt (b : Array UInt8) | flt (b : UInt64) | ref (a : Addr) | ty (n : String)
  deriving DecidableEq
noncomputable def RelV : V → Value → Prop
  | .non, u => u = Value.none
  | .bl b, u => u = Value.bool b
  | .int i, u => ∃ t, u = Value.int i t
  | .str x, u => ∃ t, u = Value.str x t
  | .byt b, u => ∃ t, u = Value.bytes b t
  | .flt b, u => ∃ t, u = Value.float b t
  | .ref a, u => u = Value.ref a
  | .ty n, u => u = Value.type n
noncomputable abbrev Vals : List V → List Value → Prop := Paired RelV
theorem Vals.length {xs : List V} {us : List Value} (r : Vals xs us) : xs.length = us.length := Paired.length r
theorem Vals.get : ∀ {xs : List V} {us : List Value} {i : Nat} {x : V}, Vals xs us → xs[i]? = some x → ∃ u, us[i]? = some u ∧ RelV x u
  | _, _, _, _, .nil, e => by simp at e
  | _, _, 0, _, .cons r _, e => by simp at e; subst e; exact ⟨_, rfl, r⟩
  | _, _, i + 1, x, .cons _ t, e => by
    obtain ⟨u, h1, h2⟩ := Vals.get (i := i) (x := x) t (by simpa using e)
    exact ⟨u, by simpa using h1, h2⟩
theorem Vals.set {x : V} {u : Value} (r : RelV x u) : ∀ {xs : List V} {us : List Value} (i : Nat), Vals xs us → Vals (xs.set i x) (us.set i u)
  | _, _, _, .nil => .nil
  | _, _, 0, .cons _ t => .cons r t
  | _, _, i + 1, .cons q t => .cons q (Vals.set r i t)
theorem Vals.append : ∀ {xs ys : List V} {us ws : List Value}, Vals xs us → Vals ys ws → Vals (xs ++ ys) (us ++ ws)
  | _, _, _, _, .nil, s => s
  | _, _, _, _, .cons r t, s => .cons r (Vals.append t s)
theorem Vals.take : ∀ {xs : List V} {us : List Value} (n : Nat), Vals xs us → Vals (xs.take n) (us.take n)
  | _, _, 0, _ => .nil
  | _, _, _ + 1, .nil => .nil
  | _, _, n + 1, .cons r t => .cons r (Vals.take n t)
theorem Vals.drop : ∀ {xs : List V} {us : List Value} (n : Nat), Vals xs us → Vals (xs.drop n) (us.drop n)
  | _, _, 0, r => r
  | _, _, _ + 1, .nil => .nil
  | _, _, n + 1, .cons _ t => Vals.drop n t
noncomputable def RelO : Option V → Option Value → Prop
  | some v, some u => RelV v u
  | none, none => True
  | _, _ => False
noncomputable def KV {κ : Type} : List (κ × V) → List (κ × Value) → Prop := Paired fun (p : κ × V) (q : κ × Value) => p.1 = q.1 ∧ RelV p.2 q.2
noncomputable def kV : Key → V
  | .inl i => .int i
  | .inr x => .str x
inductive HO where
  | lst (xs : List V)
  | tup (xs : List V)
  | dK (kvs : List (Key × V)) | dT (kvs : List (List Key × V))
  | set (S : Int → Bool) (n : Nat)
  | ins (C dx : Addr) (fs : List (Str × V))
  | own (x : Addr)
  | xd (fs : List (Str × V))
  | met (f x : Addr)
  | rng (lo hi : Int)
  | frz (o : Obj) (u : HO)
  | tbl (ps : Array Value)
  | ext (φ : Heap → Prop)
noncomputable abbrev Hp := Addr → Option HO
noncomputable def upd (H : Hp) (a : Addr) (o : HO) : Hp := fun b => if b = a then some o else H b
theorem upd_same {H : Hp} {a : Addr} {o : HO} : upd H a o a = some o := by unfold upd; rw [if_pos rfl]
theorem upd_ne {H : Hp} {a b : Addr} {o : HO} (h : b ≠ a) : upd H a o b = H b := by unfold upd; rw [if_neg h]
theorem upd_upd {H : Hp} {a : Addr} {o u : HO} : upd (upd H a o) a u = upd H a u := by
  funext b; unfold upd; split <;> rfl
theorem ne_of {H : Hp} {a b : Addr} {o u : HO} (h : H a = some o) (h' : H b = some u) (d : o ≠ u) : a ≠ b := by
  intro e; subst e; rw [h] at h'; exact d (Option.some.inj h')
theorem ne_of_none {H : Hp} {a b : Addr} {o : HO} (h : H a = some o) (h' : H b = none) : a ≠ b := by
  intro e; subst e; rw [h] at h'; cases h'
section
variable (P : Program) (w : World)
noncomputable def ObjOk (H : Hp) (h : Heap) (a : Addr) : HO → Prop
  | .lst xs => xs.length ≤ sizeLine ∧ ∃ (its : List Value) (n : Nat), Vals xs its ∧ h.get? a = some { cls := .type "list", data := .seq its.toArray n }
  | .tup xs => xs.length ≤ sizeLine ∧ ∃ its : List Value, Vals xs its ∧ IsTup h a its.toArray
  | .dK kvs => kvs.length ≤ sizeLine ∧ (a == sysModules) = false ∧ ∃ vs, KV kvs vs ∧ h.DictOf (mixKind P w) a vs
  | .dT kvs => kvs.length ≤ sizeLine ∧ (a == sysModules) = false ∧ ∃ xs : List (List Key × Addr × Value),
      Paired (fun (p : List Key × V) (q : List Key × Addr × Value) => p.1 = q.1 ∧ H q.2.1 = some (.tup (p.1.map kV)) ∧ RelV p.2 q.2.2) kvs xs ∧
      ∃ o es ep, h.get? a = some o ∧ o.ExactDict ∧ o.data = .dict es ep ∧ es.toList = xs.map (entryOfKey (tupleKind (mixKind P w))) ∧ (xs.map (·.1)).Nodup
  | .set S n => h.SetOf (intKind P w) a S n
  | .ins C dx fs => H dx = some (.own a) ∧ fs.length ≤ 1000 ∧ dx ≠ a ∧ h.get? a = some (PySem.W.instObj C dx) ∧
      ∃ mA, h.Ns1 dx mA ∧ (∀ f, RelO (fs.lookup f) (mA f)) ∧ PySem.Within mA (fs.map (·.1))
  | .own _ => ∃ o, h.get? a = some o
  | .xd fs => ∃ mA, h.Ns1 a mA ∧ ∀ f, RelO (fs.lookup f) (mA f)
  | .rng lo hi => ∃ t u v, h.get? a = some { cls := .type "range", data := .fields #[.int lo t, .int hi u, .int 1 v] }
  | .frz o u => h.get? a = some o ∧ ObjOk H h a u
  | .tbl ps => h.get? a = some { cls := .none, data := .fields ps }
  | .met f x => h.get? a = some (PySem.W.methodObj (.ref f) (.ref x))
  | .ext φ => φ h ∧ (∃ o, h.get? a = some o) ∧ ∀ h1 h2 : Heap, φ h1 → (∀ o, h1.get? a = some o → h2.get? a = some o) → φ h2
noncomputable def HOk (H : Hp) (h : Heap) : Prop := ∀ a o, H a = some o → ObjOk P w H h a o
end
section
variable {P : Program} {w : World} {H H' : Hp} {h h' : Heap} {a : Addr} {o : HO}
theorem ObjOk.lt (x : ObjOk P w H h a o) : a < h.objs.size := by
  cases o with
  | lst xs => obtain ⟨_, _, _, _, e⟩ := x; exact Heap.lt_size e
  | tup xs => obtain ⟨_, _, _, p⟩ := x; exact p.lt
  | dK kvs => obtain ⟨_, _, _, _, o, _, _, e, _⟩ := x; exact Heap.lt_size e
  | dT kvs => obtain ⟨_, _, _, _, o, _, _, e, _⟩ := x; exact Heap.lt_size e
  | set S n => obtain ⟨o, _, _, _, e, _⟩ := x; exact Heap.lt_size e
  | ins C dx fs => obtain ⟨_, _, _, e, _⟩ := x; exact Heap.lt_size e
  | own y => obtain ⟨_, e⟩ := x; exact Heap.lt_size e
  | xd fs => obtain ⟨_, ⟨_, _, _, e, _⟩, _⟩ := x; exact Heap.lt_size e
  | rng lo hi => obtain ⟨_, _, _, e⟩ := x; exact Heap.lt_size e
  | frz ob u => obtain ⟨e, _⟩ := x; exact Heap.lt_size e
  | tbl ps => exact Heap.lt_size (show h.get? a = some _ from x)
  | met f y => exact Heap.lt_size (show h.get? a = some _ from x)
  | ext φ => obtain ⟨_, ⟨_, e⟩, _⟩ := x; exact Heap.lt_size e
theorem Paired.mapP {α β : Type} {F G : α → β → Prop} : ∀ {l₁ : List α} {l₂ : List β}, Paired F l₁ l₂ → (∀ a b, F a b → G a b) → Paired G l₁ l₂
  | _, _, .nil, _ => .nil
  | _, _, .cons r t, f => .cons (f _ _ r) (Paired.mapP t f)
theorem ObjOk.stay (x : ObjOk P w H h a o) (k : ∀ b u, (b = a ∨ H b = some (.own a)) → h.get? b = some u → h'.get? b = some u)
    (ho : ∀ b, H b = some (.own a) → H' b = some (.own a)) (ht : ∀ b xs, H b = some (.tup xs) → H' b = some (.tup xs)) : ObjOk P w H' h' a o := by
  induction o with
  | lst xs => obtain ⟨z, its, n, r, e⟩ := x; exact ⟨z, its, n, r, k _ _ (.inl rfl) e⟩
  | tup xs => obtain ⟨z, its, r, ob, e, c⟩ := x; exact ⟨z, its, r, ob, k _ _ (.inl rfl) e, c⟩
  | dK kvs => obtain ⟨z, y, vs, r, ob, es, ep, e, c⟩ := x; exact ⟨z, y, vs, r, ob, es, ep, k _ _ (.inl rfl) e, c⟩
  | dT kvs =>
    obtain ⟨z, y, xs, r, ob, es, ep, e, c⟩ := x
    exact ⟨z, y, xs, Paired.mapP r fun p q z => ⟨z.1, ht _ _ z.2.1, z.2.2⟩, ob, es, ep, k _ _ (.inl rfl) e, c⟩
  | set S n => obtain ⟨ob, es, ep, t, e, c⟩ := x; exact ⟨ob, es, ep, t, k _ _ (.inl rfl) e, c⟩
  | ins C dx fs =>
    obtain ⟨d, z, ne, e, mA, ⟨od, es, ep, e2, c⟩, r⟩ := x
    exact ⟨ho _ d, z, ne, k _ _ (.inl rfl) e, mA, ⟨od, es, ep, k _ _ (.inr d) e2, c⟩, r⟩
  | own y => obtain ⟨ob, e⟩ := x; exact ⟨ob, k _ _ (.inl rfl) e⟩
  | xd fs => obtain ⟨mA, ⟨od, es, ep, e, c⟩, r⟩ := x; exact ⟨mA, ⟨od, es, ep, k _ _ (.inl rfl) e, c⟩, r⟩
  | rng lo hi => obtain ⟨t, u, v, e⟩ := x; exact ⟨t, u, v, k _ _ (.inl rfl) e⟩
  | frz ob u ih => obtain ⟨e, q⟩ := x; exact ⟨k _ _ (.inl rfl) e, ih q⟩
  | tbl ps =>
    have e : h.get? a = some { cls := .none, data := .fields ps } := x
    show h'.get? a = some { cls := .none, data := .fields ps }
    exact k a _ (.inl rfl) e
  | met f y =>
    have e : h.get? a = some (PySem.W.methodObj (.ref f) (.ref y)) := x
    show h'.get? a = some (PySem.W.methodObj (.ref f) (.ref y))
    exact k a _ (.inl rfl) e
  | ext φ => obtain ⟨p, ⟨o, e⟩, st⟩ := x; exact ⟨st _ _ p fun o q => k _ _ (.inl rfl) q, ⟨o, k _ _ (.inl rfl) e⟩, st⟩
theorem HOk.lt (x : HOk P w H h) (e : H a = some o) : a < h.objs.size := (x a o e).lt
theorem HOk.fresh (x : HOk P w H h) (e : h.objs.size ≤ a) : H a = none := by
  cases q : H a with
  | none => rfl
  | some u => exact absurd (Nat.lt_of_lt_of_le (x.lt q) e) (Nat.lt_irrefl _)
theorem HOk.kept (x : HOk P w H h) (k : ∀ b u, h.get? b = some u → h'.get? b = some u) : HOk P w H h' := fun a o e =>
  (x a o e).stay (fun b u _ q => k b u q) (fun _ q => q) fun _ _ q => q
theorem HOk.laid (x : HOk P w H h) (k : ∀ b u, h.get? b = some u → h'.get? b = some u) (hp : h.objs.size ≤ a) (new : ObjOk P w (upd H a o) h' a o) : HOk P w (upd H a o) h' := fun b u e => by
  have hn := x.fresh hp
  by_cases hb : b = a
  · subst hb; rw [upd_same] at e; cases e; exact new
  · rw [upd_ne hb] at e
    exact (x b u e).stay (fun c v _ q => k c v q) (fun c q => by rw [upd_ne (ne_of_none q hn)]; exact q) fun c xs q => by rw [upd_ne (ne_of_none q hn)]; exact q
end
noncomputable def Rd (H : Hp) (a : Addr) (u : HO) : Prop := H a = some u ∨ ∃ o, H a = some (.frz o u)
theorem Rd.ok {P : Program} {w : World} {H : Hp} {h : Heap} {a : Addr} {u : HO} (r : Rd H a u) (x : HOk P w H h) : ObjOk P w H h a u := by
  rcases r with r | ⟨o, r⟩
  · exact x a u r
  · obtain ⟨_, q⟩ := x a _ r
    exact q
noncomputable def Mut : Option HO → Prop
  | some (.lst _) => True
  | some (.dK _) => True
  | some (.dT _) => True
  | some (.set _ _) => True
  | some (.ins _ _ _) => True
  | some (.ext _) => True
  | _ => False
section
variable {P : Program} {w : World} {H : Hp} {h h' : Heap} {x e : Addr} {o' : HO}
theorem HOk.write (ok : HOk P w H h) (mu : Mut (H x)) (he : e = x ∨ H e = some (.own x)) (k : ∀ b u, b ≠ e → h.get? b = some u → h'.get? b = some u) (heo : ∃ u, h'.get? e = some u)
    (new : ObjOk P w (upd H x o') h' x o') : HOk P w (upd H x o') h' := fun b u q => by
  have nown : ∀ c y, H c = some (.own y) → c ≠ x := fun c y r z => by subst z; rw [r] at mu; exact mu
  have ntup : ∀ c xs, H c = some (.tup xs) → c ≠ x := fun c xs r z => by subst z; rw [r] at mu; exact mu
  by_cases hb : b = x
  · subst hb; rw [upd_same] at q; cases q; exact new
  · rw [upd_ne hb] at q
    by_cases hbe : b = e
    · have q' : H b = some (.own x) := by
        rcases he with z | z
        · exact absurd (hbe.trans z) hb
        · rw [hbe]; exact z
      rw [q] at q'; cases q'
      obtain ⟨v, hv⟩ := heo
      exact ⟨v, by rw [hbe]; exact hv⟩
    · refine (ok b u q).stay (fun c v hc r => k c v ?_ r) (fun c r => by rw [upd_ne (nown c b r)]; exact r) fun c xs r => by rw [upd_ne (ntup c xs r)]; exact r
      rcases hc with rfl | hc
      · exact hbe
      · rintro rfl
        rcases he with z | z
        · exact nown c b hc z
        · rw [hc] at z; cases z; exact hb rfl
end
structure Un (fs ex : List Addr) (H H' : Hp) (h h' : Heap) : Prop where
  keep : ∀ b o, h.get? b = some o → H b = none → b ∉ fs → b ∉ ex → h'.get? b = some o
  slot : ∀ b o, h.get? b = some o → H b = none → b ∈ fs → b ∉ ex → ∃ sl, h'.get? b = some { o with slots := sl }
  free : ∀ b o, h.get? b = some o → H b = none → b ∉ ex → H' b = none
  there : ∀ b o, h.get? b = some o → b ∉ ex → ∃ o', h'.get? b = some o'
  tups : ∀ b xs, H b = some (.tup xs) → H' b = some (.tup xs)
  frzs : ∀ b o u, H b = some (.frz o u) → H' b = some (.frz o u)
  tbls : ∀ b ps, H b = some (.tbl ps) → ∃ more, H' b = some (.tbl (ps ++ more))
section
variable {fs fs' ex ex' : List Addr} {H H1 H2 : Hp} {h h1 h2 h' : Heap} {a x e : Addr} {o : HO}
theorem Un.any (u : Un fs ex H H1 h h1) {b : Addr} {ob : Obj} (q : h.get? b = some ob) (n : H b = none) (hx : b ∉ ex) : ∃ sl, h1.get? b = some { ob with slots := sl } := by
  by_cases hb : b ∈ fs
  · exact u.slot b ob q n hb hx
  · exact ⟨ob.slots, u.keep b ob q n hb hx⟩
theorem Un.kept (k : ∀ b u, h.get? b = some u → h'.get? b = some u) : Un fs ex H H h h' :=
  ⟨fun b ob q _ _ _ => k b ob q, fun b ob q _ _ _ => ⟨ob.slots, k b ob q⟩, fun _ _ _ n _ => n, fun b ob q _ => ⟨ob, k b ob q⟩, fun _ _ q => q, fun _ _ _ q => q, fun _ ps q => ⟨#[], by rw [q]; simp⟩⟩
theorem Un.refl : Un fs ex H H h h := Un.kept fun _ _ q => q
theorem Un.laid (k : ∀ b u, h.get? b = some u → h'.get? b = some u) (hp : h.objs.size ≤ a) (hn : H a = none) : Un fs ex H (upd H a o) h h' where
  keep := fun b u q _ _ _ => k b u q
  slot := fun b u q _ _ _ => ⟨u.slots, k b u q⟩
  free := fun b u q n _ => by rw [upd_ne (Nat.ne_of_lt (Nat.lt_of_lt_of_le (Heap.lt_size q) hp))]; exact n
  there := fun b u q _ => ⟨u, k b u q⟩
  tups := fun b xs q => by rw [upd_ne (ne_of_none q hn)]; exact q
  frzs := fun b u xs q => by rw [upd_ne (ne_of_none q hn)]; exact q
  tbls := fun b ps q => ⟨#[], by rw [upd_ne (ne_of_none q hn), q]; simp⟩
theorem Un.write (mu : Mut (H x)) (he : e = x ∨ H e = some (.own x)) (k : ∀ b u, b ≠ e → h.get? b = some u → h'.get? b = some u) (heo : ∃ u, h'.get? e = some u) : Un fs ex H (upd H x o) h h' := by
  have hx : ∀ b, H b = none → b ≠ x := fun b n z => by subst z; rw [n] at mu; exact mu
  have hb : ∀ b, H b = none → b ≠ e := fun b n z => by
    subst z
    rcases he with r | r
    · exact hx b n r
    · rw [n] at r; cases r
  have hm : ∀ b u, H b = some u → ¬ Mut (some u) → b ≠ x := fun b u q nm z => by subst z; rw [q] at mu; exact nm mu
  refine ⟨fun b u q n _ _ => k b u (hb b n) q, fun b u q n _ _ => ⟨u.slots, k b u (hb b n) q⟩, fun b u q n _ => by rw [upd_ne (hx b n)]; exact n, fun b u q _ => ?_,
    fun b xs q => by rw [upd_ne (hm b _ q fun z => z)]; exact q, fun b u xs q => by rw [upd_ne (hm b _ q fun z => z)]; exact q, fun b ps q => ⟨#[], by rw [upd_ne (hm b _ q fun z => z), q]; simp⟩⟩
  by_cases hbe : b = e
  · subst hbe; exact heo
  · exact ⟨u, k b u hbe q⟩
end
noncomputable def trk (h : Heap) (H : Hp) : List Addr := (List.range h.objs.size).filter fun a => (H a).isSome
noncomputable def hidT (h : Heap) (H : Hp) : Heap := PySem.W.hideAll h (trk h H)
theorem hidT_size (h : Heap) (H : Hp) : (hidT h H).objs.size = h.objs.size := PySem.W.hideAll_size _ _
theorem hidT_get {h : Heap} {H : Hp} {b : Addr} {o : Obj} (e : h.get? b = some o) (n : H b = none) : (hidT h H).get? b = some o :=
  PySem.W.hideAll_get _ e fun hm => by
    have q : (H b).isSome = true := (List.mem_filter.mp hm).2
    rw [n] at q; simp at q
theorem of_hidT {h : Heap} {H : Hp} {b : Addr} {o : Obj} (e : (hidT h H).get? b = some o) : h.get? b = some o ∧ H b = none := by
  have e' : h.get? b = some o := PySem.W.of_hideAll (trk h H) e
  refine ⟨e', ?_⟩
  cases q : H b with
  | none => rfl
  | some x =>
    have hm : b ∈ trk h H := List.mem_filter.mpr ⟨List.mem_range.mpr (Heap.lt_size e'), by simp [q]⟩
    have z : (hidT h H).get? b = none := PySem.W.hideAll_none (trk h H) hm
    rw [z] at e; cases e
noncomputable def allNews (g h : Heap) (L : Addr) : List (Addr × Obj) := (List.range h.objs.size).filterMap fun a => if a = L ∨ (g.get? a).isSome = true then none else (h.get? a).map fun o => (a, o)
noncomputable def rest (g h : Heap) (L d : Addr) : List (Addr × Obj) := (allNews g h L).filter fun p => decide (p.1 ≠ d)
end L2
namespace L2
open PySem PySem.Spec PyProof.Rows
structure Mod (K : PySem.W.Frag) (mg : Str → Option Value) (base : Heap) : Prop where
  kin : K.In base
  glob : base.Ns mainGlobals mg
  blt : ∃ mb, base.Ns builtinsNs mb ∧ ∀ x : Str, x ≠ "__name__" → mb x = bootBuiltins x
  nolimit : base.NoLimit
structure Cx where
  prog : Program
  w : World
  K : PySem.W.Frag
  mg : Str → Option Value
  base : Heap
  A : Around
  N : List Str
  s₀ : Shared
  H₀ : Hp
  env : Env
  outer : List Env
  stack : List Env
  ex : List Addr
  fn : Str → Bool
  calm : Bool
  pn : List (Addr × Obj)
  xe : Value → Shared → Prop
noncomputable def frs (l : List Env) : List Addr := l.filterMap (·.frame)
noncomputable abbrev Cx.fs (X : Cx) : List Addr := frs X.outer
noncomputable def Vis (sc : Scope) (x : Str) : Prop := sc.names.lookup x = some .local ∨ sc.names.lookup x = some .cell ∨ sc.names.lookup x = some .free
noncomputable def Loc (sc : Scope) (x : Str) : Prop := sc.names.lookup x = some .local ∨ sc.names.lookup x = some .cell
noncomputable def Look (env : Env) (h : Heap) (m : Str → Option Value) (x : Str) (u : Value) : Prop :=
  (env.kindOf x = some .local ∧ m x = some u) ∨ ((env.kindOf x = some .cell ∨ env.kindOf x = some .free) ∧ ∃ c, env.cells.lookup x = some c ∧ h.IsCell c (some u))
structure Cx.Ok (X : Cx) : Prop where
  mod : Mod X.K X.mg X.base
  kind : X.env.scope.kind = .function
  glob : X.env.globals = mainGlobals
  blt : X.env.builtins = builtinsNs
  above : X.s₀.heap.objs.size ≤ X.env.locals
  inj : ∀ x y c, X.env.cells.lookup x = some c → X.env.cells.lookup y = some c → x = y
  has : ∀ x, (X.env.kindOf x = some .cell ∨ X.env.kindOf x = some .free) → ∃ c, X.env.cells.lookup x = some c
  cab : ∀ x c, X.fn x = true → X.env.cells.lookup x = some c → X.s₀.heap.objs.size ≤ c
  hd : X.calm = true → X.A.handled = none
  frames : X.A.frames = some X.stack
  stk : X.stack = X.outer ∨ (X.stack = X.env :: X.outer ∧ X.env.frame = some X.env.locals)
  exf : ∀ b ∈ X.ex, b ≠ X.env.locals ∧ ∀ x c, X.env.cells.lookup x = some c → c ≠ b
  bs : ∀ b o, X.base.get? b = some o → X.s₀.heap.get? b = some o ∧ X.H₀ b = none
  bsz : X.base.objs.size ≤ X.s₀.heap.objs.size
  noex : ∀ b o, X.base.get? b = some o → b ∉ X.ex
  exfs : ∀ b ∈ X.ex, b ∉ X.fs
  funs : X.s₀.heap.FunFrames X.base X.outer
  frf : ∀ b ∈ X.fs, X.H₀ b = none
structure Inv (X : Cx) (pins : List (Addr × Obj)) (σ : List (Option V)) (H : Hp) (s : Shared) : Prop where
  ok : X.Ok
  os : s.os = X.s₀.os
  bare : AllBare s.gens
  base : Un X.fs X.ex X.H₀ H X.s₀.heap s.heap
  loc : ∃ m, s.heap.Ns X.env.locals m ∧ ∀ (i : Nat) (x : Str) (v : V), X.N[i]? = some x → σ[i]? = some (some v) → Vis X.env.scope x → ∃ u, RelV v u ∧ Look X.env s.heap m x u
  cell : ∀ x c, X.env.cells.lookup x = some c → ∃ v, s.heap.IsCell c v
  free : H X.env.locals = none
  freeC : ∀ x c, X.env.cells.lookup x = some c → H c = none
  pin : ∀ p ∈ X.pn ++ pins, s.heap.get? p.1 = some p.2 ∧ H p.1 = none ∧ p.1 ≠ X.env.locals ∧ p.1 ∉ X.fs ∧ ∀ v, p.2.data ≠ .cell v
  hok : HOk X.prog X.w H s.heap
  len : σ.length = X.N.length
section
variable {X : Cx} {pins : List (Addr × Obj)} {σ : List (Option V)} {H H' : Hp} {s : Shared} {h' : Heap}
theorem Cx.Ok.nofr (ok : X.Ok) {b : Addr} {o : Obj} (e : X.base.get? b = some o) : b ∉ X.fs := fun hb => by
  have := (ok.funs.mem hb).1
  rw [e] at this; cases this
theorem Inv.bs (I : Inv X pins σ H s) : ∀ b o, X.base.get? b = some o → s.heap.get? b = some o ∧ H b = none := fun b o e =>
  ⟨I.base.keep b o (I.ok.bs b o e).1 (I.ok.bs b o e).2 (I.ok.nofr e) (I.ok.noex b o e), I.base.free b o (I.ok.bs b o e).1 (I.ok.bs b o e).2 (I.ok.noex b o e)⟩
theorem Inv.bk (I : Inv X pins σ H s) : ∀ b o, X.base.get? b = some o → s.heap.get? b = some o := fun b o e => (I.bs b o e).1
theorem Inv.mod (I : Inv X pins σ H s) : Mod X.K X.mg X.base := I.ok.mod
theorem Inv.kIn (I : Inv X pins σ H s) : X.K.In s.heap := I.ok.mod.kin.keeps I.bk
theorem Inv.fr (I : Inv X pins σ H s) : ∃ m, Fr X.base X.env.locals s.heap m :=
  let ⟨m, hn, _⟩ := I.loc
  ⟨m, hn, I.bk, Nat.le_trans I.ok.bsz I.ok.above⟩
theorem Inv.lt (I : Inv X pins σ H s) : X.env.locals < s.heap.objs.size := let ⟨_, hn, _⟩ := I.loc; hn.lt
theorem Inv.sz (I : Inv X pins σ H s) : X.s₀.heap.objs.size ≤ s.heap.objs.size := Nat.le_trans I.ok.above (Nat.le_of_lt I.lt)
theorem Inv.nofs (I : Inv X pins σ H s) {a : Addr} (h : s.heap.objs.size ≤ a) : a ∉ X.fs := fun hb => by
  obtain ⟨_, o, ho, _⟩ := I.ok.funs.mem hb
  exact absurd (Nat.lt_of_lt_of_le (Heap.lt_size ho) (Nat.le_trans I.sz h)) (Nat.lt_irrefl _)
theorem Inv.cne (I : Inv X pins σ H s) : ∀ x c, X.env.cells.lookup x = some c → c ≠ X.env.locals := fun x c e z => by
  obtain ⟨v, o, ho, hd⟩ := I.cell x c e
  obtain ⟨m, ⟨o', es, ep, ho', hd', _⟩, _⟩ := I.loc
  rw [z, ho'] at ho; cases ho; rw [hd'] at hd; cases hd
theorem Inv.funs (I : Inv X pins σ H s) : s.heap.FunFrames X.base X.outer := by
  have all : ∀ (l : List Env), (∀ b ∈ frs l, b ∈ X.fs) → X.s₀.heap.FunFrames X.base l → s.heap.FunFrames X.base l := by
    intro l
    induction l with
    | nil => intro _ _; trivial
    | cons env r ih =>
      intro hs hl
      obtain ⟨hk, ⟨L, o, hf, hn, ho, hd⟩, hr⟩ := hl
      have hL : L ∈ X.fs := hs L (by unfold frs; rw [List.filterMap_cons, hf]; exact List.mem_cons_self)
      obtain ⟨sl, e⟩ := I.base.slot L o ho (I.ok.frf L hL) hL fun z => I.ok.exfs L z hL
      exact ⟨hk, ⟨L, _, hf, hn, e, hd⟩, ih (fun b hb => hs b (by unfold frs; rw [List.filterMap_cons, hf]; exact List.mem_cons_of_mem _ hb)) hr⟩
  exact all X.outer (fun _ hb => hb) I.ok.funs
theorem Inv.stack (I : Inv X pins σ H s) : s.heap.FunFrames X.base X.stack := by
  rcases I.ok.stk with e | ⟨e, hf⟩
  · rw [e]; exact I.funs
  · rw [e]
    obtain ⟨m, hn, _⟩ := I.loc
    refine .cons (by rw [I.ok.kind]; decide) hf hn ?_ I.funs
    exact Heap.get?_none_of_le (Nat.le_trans I.ok.bsz I.ok.above)
theorem Inv.stkSub (I : Inv X pins σ H s) : ∀ b ∈ frs X.stack, b ∈ X.env.locals :: X.fs := fun b hb => by
  rcases I.ok.stk with e | ⟨e, hf⟩
  · rw [e] at hb; exact List.mem_cons_of_mem _ hb
  · rw [e] at hb
    unfold frs at hb
    rw [List.filterMap_cons, hf] at hb
    exact hb
theorem Inv.stkFree (I : Inv X pins σ H s) : ∀ b ∈ frs X.stack, H b = none := fun b hb => by
  rcases List.mem_cons.mp (I.stkSub b hb) with e | hb
  · rw [e]; exact I.free
  · obtain ⟨_, o, ho, _⟩ := I.ok.funs.mem hb
    exact I.base.free b o ho (I.ok.frf b hb) fun z => I.ok.exfs b z hb
theorem Inv.step {g' : Array GenState} {t' : Nat} {d' : Drawn} {ch : List Addr} (I : Inv X pins σ H s)
    (hch : ∀ b ∈ ch, (b ∈ X.ex ∨ X.s₀.heap.objs.size ≤ b) ∧ b ≠ X.env.locals ∧ (∀ x c, X.env.cells.lookup x = some c → c ≠ b) ∧ ∀ p ∈ X.pn ++ pins, p.1 ≠ b)
    (keep : ∀ b o, b ≠ X.env.locals → b ∉ X.fs → b ∉ ch → s.heap.get? b = some o → H b = none → h'.get? b = some o)
    (slot : ∀ b o, b ≠ X.env.locals → b ∈ X.fs → b ∉ ch → s.heap.get? b = some o → H b = none → ∃ sl, h'.get? b = some { o with slots := sl }) (free : ∀ b o, b ∉ ch → s.heap.get? b = some o → H b = none → H' b = none)
    (there : ∀ b o, b ∉ ch → s.heap.get? b = some o → ∃ o', h'.get? b = some o')
    (tups : ∀ b xs, H b = some (.tup xs) → H' b = some (.tup xs)) (frzs : ∀ b o u, H b = some (.frz o u) → H' b = some (.frz o u)) (tbls : ∀ b ps, H b = some (.tbl ps) → ∃ more, H' b = some (.tbl (ps ++ more)))
    (ns : ∀ m, s.heap.Ns X.env.locals m → h'.Ns X.env.locals m) (hok : HOk X.prog X.w H' h') (hg : AllBare g') :
    Inv X pins σ H' { s with heap := h', gens := g', drawn := d', toks := t' } := by
  have neL : ∀ b o, X.s₀.heap.get? b = some o → b ≠ X.env.locals := fun b o e => Nat.ne_of_lt (Nat.lt_of_lt_of_le (Heap.lt_size e) I.ok.above)
  have neC : ∀ b o, X.s₀.heap.get? b = some o → b ∉ X.ex → b ∉ ch := fun b o e hx hb => by
    rcases (hch b hb).1 with z | z
    · exact hx z
    · exact absurd (Nat.lt_of_lt_of_le (Heap.lt_size e) z) (Nat.lt_irrefl _)
  have cellK : ∀ x c, X.env.cells.lookup x = some c → ∀ v, s.heap.IsCell c v → h'.IsCell c v := fun x c e v ⟨o, ho, hd⟩ => by
    have nch : c ∉ ch := fun z => (hch c z).2.2.1 x c e rfl
    by_cases hc : c ∈ X.fs
    · obtain ⟨sl, q⟩ := slot c o (I.cne x c e) hc nch ho (I.freeC x c e)
      exact ⟨_, q, hd⟩
    · exact ⟨o, keep c o (I.cne x c e) hc nch ho (I.freeC x c e), hd⟩
  refine ⟨I.ok, I.os, hg, ⟨fun b o e n hb hx => ?_, fun b o e n hb hx => ?_, fun b o e n hx => ?_, fun b o e hx => ?_, fun b xs e => tups b xs (I.base.tups b xs e), fun b o xs e => frzs b o xs (I.base.frzs b o xs e), fun b ps e => ?_⟩, ?_, fun x c e => ?_, ?_, fun x c e => ?_, fun p hp => ?_, hok, I.len⟩
  · exact keep b o (neL b o e) hb (neC b o e hx) (I.base.keep b o e n hb hx) (I.base.free b o e n hx)
  · obtain ⟨sl, e1⟩ := I.base.slot b o e n hb hx
    obtain ⟨sl', e2⟩ := slot b _ (neL b o e) hb (neC b o e hx) e1 (I.base.free b o e n hx)
    exact ⟨sl', e2⟩
  · obtain ⟨o', e1⟩ := I.base.there b o e hx
    exact free b o' (neC b o e hx) e1 (I.base.free b o e n hx)
  · obtain ⟨o', e1⟩ := I.base.there b o e hx
    exact there b o' (neC b o e hx) e1
  · obtain ⟨m1, e1⟩ := I.base.tbls b ps e
    obtain ⟨m2, e2⟩ := tbls b _ e1
    exact ⟨m1 ++ m2, by rw [e2, Array.append_assoc]⟩
  · obtain ⟨m, hn, hl⟩ := I.loc
    refine ⟨m, ns m hn, fun i x v e1 e2 e3 => ?_⟩
    obtain ⟨u, r, l⟩ := hl i x v e1 e2 e3
    refine ⟨u, r, ?_⟩
    rcases l with l | ⟨k, c, e, z⟩
    · exact .inl l
    · exact .inr ⟨k, c, e, cellK x c e _ z⟩
  · obtain ⟨v, z⟩ := I.cell x c e
    exact ⟨v, cellK x c e v z⟩
  · obtain ⟨m, ⟨o, _, _, ho, _⟩, _⟩ := I.loc
    exact free _ o (fun z => (hch _ z).2.1 rfl) ho I.free
  · obtain ⟨v, o, ho, hd⟩ := I.cell x c e
    exact free c o (fun z => (hch c z).2.2.1 x c e rfl) ho (I.freeC x c e)
  · obtain ⟨e, n, ne, nf, d⟩ := I.pin p hp
    have nch : p.1 ∉ ch := fun z => (hch p.1 z).2.2.2 p hp rfl
    exact ⟨keep p.1 p.2 ne nf nch e n, free p.1 p.2 nch e n, ne, nf, d⟩
theorem Inv.un {t' : Nat} (I : Inv X pins σ H s) (u : Un X.fs [] H H' s.heap h') (hok : HOk X.prog X.w H' h') : Inv X pins σ H' { s with heap := h', toks := t' } := by
  obtain ⟨m, ⟨o, es, ep, ho, r⟩, _⟩ := id I.loc
  obtain ⟨sl, hL⟩ := u.any ho I.free (by simp)
  exact I.step (g' := s.gens) (d' := s.drawn) (ch := []) (fun _ z => nomatch z) (fun b o _ hb _ e n => u.keep b o e n hb (by simp)) (fun b o _ hb _ e n => u.slot b o e n hb (by simp)) (fun b o _ e n => u.free b o e n (by simp)) (fun b o _ e => u.there b o e (by simp)) u.tups u.frzs u.tbls (fun m' hm => by
    obtain ⟨o', es', ep', ho', r'⟩ := hm
    rw [ho] at ho'; cases ho'
    exact ⟨_, es', ep', hL, r'⟩) hok I.bare
theorem Inv.call {g' : Array GenState} {t' : Nat} {d' : Drawn} {ch : List Addr} (I : Inv X pins σ H s) (u : Un (frs X.stack) ch H H' s.heap h') (hok : HOk X.prog X.w H' h') (hg : AllBare g')
    (hch : ∀ b ∈ ch, (b ∈ X.ex ∨ X.s₀.heap.objs.size ≤ b) ∧ b ≠ X.env.locals ∧ (∀ x c, X.env.cells.lookup x = some c → c ≠ b) ∧ ∀ p ∈ X.pn ++ pins, p.1 ≠ b) :
    Inv X pins σ H' { s with heap := h', gens := g', drawn := d', toks := t' } := by
  obtain ⟨m, ⟨o, es, ep, ho, r⟩, _⟩ := id I.loc
  obtain ⟨sl, hL⟩ := u.any ho I.free fun z => (hch _ z).2.1 rfl
  exact I.step (ch := ch) hch (fun b o hL hb hc e n => u.keep b o e n (fun z => (List.mem_cons.mp (I.stkSub b z)).elim hL hb) hc) (fun b o _ _ hc e n => u.any e n hc) (fun b o hc e n => u.free b o e n hc) (fun b o hc e => u.there b o e hc) u.tups u.frzs u.tbls (fun m' hm => by
    obtain ⟨o', es', ep', ho', r'⟩ := hm
    rw [ho] at ho'; cases ho'
    exact ⟨_, es', ep', hL, r'⟩) hok hg
theorem Inv.turned {t' : Nat} {it : Addr} (I : Inv X pins σ H s) (k : ∀ b o, b ≠ it → s.heap.get? b = some o → h'.get? b = some o) (hn : H it = none) (hL : it ≠ X.env.locals)
    (h1 : it ∈ X.ex ∨ X.s₀.heap.objs.size ≤ it) (h2 : ∀ x c, X.env.cells.lookup x = some c → c ≠ it) (h3 : ∀ p ∈ X.pn ++ pins, p.1 ≠ it) : Inv X pins σ H { s with heap := h', toks := t' } := by
  have nit : ∀ b u, H b = some u → b ≠ it := fun b u e z => by rw [z, hn] at e; cases e
  refine I.step (g' := s.gens) (d' := s.drawn) (ch := [it]) (fun b hb => ?_) (fun b o _ _ hc e _ => k b o (fun z => hc (by simp [z])) e) (fun b o _ _ hc e _ => ⟨o.slots, k b o (fun z => hc (by simp [z])) e⟩) (fun _ _ _ _ n => n)
    (fun b o hc e => ⟨o, k b o (fun z => hc (by simp [z])) e⟩) (fun _ _ e => e) (fun _ _ _ e => e) (fun b ps e => ⟨#[], by rw [e]; simp⟩) (fun m hm => ?_) (fun b u e => ?_) I.bare
  · have e : b = it := by simpa using hb
    subst e
    exact ⟨h1, hL, h2, h3⟩
  · obtain ⟨o, es, ep, ho, r⟩ := hm
    exact ⟨o, es, ep, k _ o (Ne.symm hL) ho, r⟩
  · refine (I.hok b u e).stay (fun c v hc q => k c v ?_ q) (fun _ q => q) fun _ _ q => q
    rcases hc with z | z
    · rw [z]; exact nit b u e
    · exact nit c _ z
theorem Inv.tok (I : Inv X pins σ H s) (t : Nat) : Inv X pins σ H { s with toks := t } := I.un (h' := s.heap) (t' := t) Un.refl I.hok
theorem Inv.kept {t' : Nat} (I : Inv X pins σ H s) (k : ∀ b u, s.heap.get? b = some u → h'.get? b = some u) : Inv X pins σ H { s with heap := h', toks := t' } := I.un (Un.kept k) (I.hok.kept k)
theorem Inv.laid {a : Addr} {o : HO} {t' : Nat} (I : Inv X pins σ H s) (k : ∀ b u, s.heap.get? b = some u → h'.get? b = some u) (hp : s.heap.objs.size ≤ a) (new : ObjOk X.prog X.w (upd H a o) h' a o) :
    Inv X pins σ (upd H a o) { s with heap := h', toks := t' } := I.un (Un.laid k hp (I.hok.fresh hp)) (I.hok.laid k hp new)
theorem Inv.write {x e : Addr} {o : HO} {t' : Nat} (I : Inv X pins σ H s) (mu : Mut (H x)) (he : e = x ∨ H e = some (.own x)) (k : ∀ b u, b ≠ e → s.heap.get? b = some u → h'.get? b = some u) (heo : ∃ u, h'.get? e = some u)
    (new : ObjOk X.prog X.w (upd H x o) h' x o) : Inv X pins σ (upd H x o) { s with heap := h', toks := t' } := I.un (Un.write mu he k heo) (I.hok.write mu he k heo new)
theorem Inv.weak {σ' : List (Option V)} (I : Inv X pins σ H s) (hl : σ'.length = σ.length) (w : ∀ (i : Nat) v, σ'[i]? = some (some v) → σ[i]? = some (some v)) : Inv X pins σ' H s :=
  ⟨I.ok, I.os, I.bare, I.base, let ⟨m, hn, hl'⟩ := I.loc; ⟨m, hn, fun i x v e1 e2 e3 => hl' i x v e1 (w i v e2) e3⟩, I.cell, I.free, I.freeC, I.pin, I.hok, hl.trans I.len⟩
theorem Inv.pins_of {pins' : List (Addr × Obj)} (I : Inv X pins σ H s) (h : ∀ p ∈ pins', s.heap.get? p.1 = some p.2 ∧ H p.1 = none ∧ p.1 ≠ X.env.locals ∧ p.1 ∉ X.fs ∧ ∀ v, p.2.data ≠ .cell v) : Inv X pins' σ H s :=
  ⟨I.ok, I.os, I.bare, I.base, I.loc, I.cell, I.free, I.freeC, fun p hp => (List.mem_append.mp hp).elim (fun z => I.pin p (List.mem_append_left _ z)) (h p), I.hok, I.len⟩
theorem nodup_ix {N : List Str} (hN : N.Nodup) {i j : Nat} {x : Str} (a : N[i]? = some x) (b : N[j]? = some x) : i = j := by
  obtain ⟨h1, e1⟩ := List.getElem?_eq_some_iff.mp a
  obtain ⟨h2, e2⟩ := List.getElem?_eq_some_iff.mp b
  exact (List.getElem_inj hN).mp (e1.trans e2.symm)
theorem store_ok2 {M : Model} {A : Around} {E : Value → Shared → Prop} {i : Nat} {x : Str} {v : V} {u : Value} {Q : Unit → Shared → Prop} (I : Inv X pins σ H s) (hN : X.N.Nodup) (hi : X.N[i]? = some x) (hx : Loc X.env.scope x) (r : RelV v u)
    (h : ∀ s', Inv X pins (σ.set i (some v)) H s' → (∃ a, Heap.SameBut a s.heap s'.heap ∧ (a = X.env.locals ∨ X.env.cells.lookup x = some a)) → Q () s') (hf : X.fn x = true ∨ X.env.scope.names.lookup x = some .local := by first | exact .inl rfl | exact .inr rfl | assumption) : wpAny M A (storeName X.env x u) Q E s := by
  obtain ⟨m, hn, hl⟩ := id I.loc
  have hcls : (X.env.scope.kind == .class || (X.env.scope.kind == .module && X.env.locals != X.env.globals)) = false := by rw [I.ok.kind]; rfl
  have hiσ : i < σ.length := by rw [I.len]; exact (List.getElem?_eq_some_iff.mp hi).1
  have cne := I.cne
  have tracked : ∀ {a : Addr} {h' : Heap}, (∃ o, s.heap.get? a = some o ∧ H a = none) → Heap.SameBut a s.heap h' → HOk X.prog X.w H h' := fun {a h'} ha hs b ob e => by
    obtain ⟨_, _, hfree⟩ := ha
    refine (I.hok b ob e).stay (fun c w' hc q => (hs.2 c ?_).trans q) (fun _ q => q) fun _ _ q => q
    rintro rfl
    rcases hc with rfl | hc
    · rw [hfree] at e; cases e
    · rw [hfree] at hc; cases hc
  rcases hx with hk | hk
  · refine wpAny_storeName_local hk hn (fun h' hn' hs => ?_) hcls
    obtain ⟨oL, _, _, hoL, _⟩ := id hn
    refine h _ ⟨I.ok, I.os, I.bare, ⟨fun b o e n hb hx => ?_, fun b o e n hb hx => ?_, I.base.free, fun b o e hx => ?_, I.base.tups, I.base.frzs, I.base.tbls⟩, ⟨_, hn', fun j y v' e1 e2 e3 => ?_⟩, fun y c e => ?_, I.free, I.freeC, fun p hp => ?_, tracked ⟨oL, hoL, I.free⟩ hs, by simpa using I.len⟩ ⟨_, hs, .inl rfl⟩
    · exact (hs.2 b (Nat.ne_of_lt (Nat.lt_of_lt_of_le (Heap.lt_size e) I.ok.above))).trans (I.base.keep b o e n hb hx)
    · obtain ⟨sl, e1⟩ := I.base.slot b o e n hb hx
      exact ⟨sl, (hs.2 b (Nat.ne_of_lt (Nat.lt_of_lt_of_le (Heap.lt_size e) I.ok.above))).trans e1⟩
    · obtain ⟨o', e1⟩ := I.base.there b o e hx
      exact ⟨o', (hs.2 b (Nat.ne_of_lt (Nat.lt_of_lt_of_le (Heap.lt_size e) I.ok.above))).trans e1⟩
    · by_cases hj : j = i
      · subst hj
        rw [hi] at e1; cases e1
        rw [List.getElem?_set_self hiσ] at e2
        cases e2
        exact ⟨u, r, .inl ⟨hk, by simp⟩⟩
      · rw [List.getElem?_set_ne (Ne.symm hj)] at e2
        obtain ⟨u', r', q⟩ := hl j y v' e1 e2 e3
        refine ⟨u', r', ?_⟩
        rcases q with ⟨k, e⟩ | ⟨k, c, e, z⟩
        · refine .inl ⟨k, ?_⟩
          have : y ≠ x := fun e => hj (nodup_ix hN e1 (e ▸ hi))
          simp [this, e]
        · exact .inr ⟨k, c, e, z.sameBut hs (cne y c e)⟩
    · obtain ⟨w', z⟩ := I.cell y c e
      exact ⟨w', z.sameBut hs (cne y c e)⟩
    · obtain ⟨e, n, ne, nf, d⟩ := I.pin p hp
      exact ⟨(hs.2 p.1 ne).trans e, n, ne, nf, d⟩
  · have hfn : X.fn x = true := by
      rcases hf with z | z
      · exact z
      · rw [z] at hk; cases hk
    obtain ⟨c, hc⟩ := I.ok.has x (.inl hk)
    obtain ⟨w', z⟩ := I.cell x c hc
    refine wpAny_storeName_cell I.ok.kind hk hc z (fun h' hc' hs => ?_)
    obtain ⟨oc, hoc, hocd⟩ := id z
    refine h { s with heap := h' } ⟨I.ok, I.os, I.bare, ⟨fun b o e n hb hx => ?_, fun b o e n hb hx => ?_, I.base.free, fun b o e hx => ?_, I.base.tups, I.base.frzs, I.base.tbls⟩, ⟨m, hn.sameBut hs (Ne.symm (cne x c hc)), fun j y v' e1 e2 e3 => ?_⟩, fun y c' e => ?_, I.free, I.freeC, fun p hp => ?_, tracked ⟨oc, hoc, I.freeC x c hc⟩ hs, by simpa using I.len⟩ ⟨c, hs, .inr hc⟩
    · exact (hs.2 b (Nat.ne_of_lt (Nat.lt_of_lt_of_le (Heap.lt_size e) (I.ok.cab x c hfn hc)))).trans (I.base.keep b o e n hb hx)
    · obtain ⟨sl, e1⟩ := I.base.slot b o e n hb hx
      exact ⟨sl, (hs.2 b (Nat.ne_of_lt (Nat.lt_of_lt_of_le (Heap.lt_size e) (I.ok.cab x c hfn hc)))).trans e1⟩
    · obtain ⟨o', e1⟩ := I.base.there b o e hx
      exact ⟨o', (hs.2 b (Nat.ne_of_lt (Nat.lt_of_lt_of_le (Heap.lt_size e) (I.ok.cab x c hfn hc)))).trans e1⟩
    · by_cases hj : j = i
      · subst hj
        rw [hi] at e1; cases e1
        rw [List.getElem?_set_self hiσ] at e2
        cases e2
        exact ⟨u, r, .inr ⟨.inl hk, c, hc, hc'⟩⟩
      · rw [List.getElem?_set_ne (Ne.symm hj)] at e2
        obtain ⟨u', r', q⟩ := hl j y v' e1 e2 e3
        refine ⟨u', r', ?_⟩
        rcases q with q | ⟨k, c', e, z'⟩
        · exact .inl q
        · refine .inr ⟨k, c', e, z'.sameBut hs ?_⟩
          rintro rfl
          exact hj (nodup_ix hN e1 (I.ok.inj _ _ _ e hc ▸ hi))
    · by_cases hcc : c' = c
      · subst hcc; exact ⟨_, hc'⟩
      · obtain ⟨w2, z2⟩ := I.cell y c' e
        exact ⟨w2, z2.sameBut hs hcc⟩
    · obtain ⟨e, n, ne, nf, d⟩ := I.pin p hp
      refine ⟨(hs.2 p.1 ?_).trans e, n, ne, nf, d⟩
      intro q
      rw [q, hoc] at e
      have q' : oc = p.2 := Option.some.inj e
      exact d w' (by rw [← q']; exact hocd)
theorem store_ok {M : Model} {A : Around} {E : Value → Shared → Prop} {i : Nat} {x : Str} {v : V} {u : Value} {Q : Unit → Shared → Prop} (I : Inv X pins σ H s) (hN : X.N.Nodup) (hi : X.N[i]? = some x) (hx : Loc X.env.scope x) (r : RelV v u)
    (h : ∀ s', Inv X pins (σ.set i (some v)) H s' → Q () s') (hf : X.fn x = true ∨ X.env.scope.names.lookup x = some .local := by first | exact .inl rfl | exact .inr rfl | assumption) : wpAny M A (storeName X.env x u) Q E s :=
  store_ok2 I hN hi hx r (fun s' I' _ => h s' I') hf
theorem Inv.call' {s' : Shared} {ch : List Addr} (I : Inv X pins σ H s) (ho : s'.os = s.os) (u : Un (frs X.stack) ch H H' s.heap s'.heap) (hok : HOk X.prog X.w H' s'.heap) (hg : AllBare s'.gens)
    (hch : ∀ b ∈ ch, (b ∈ X.ex ∨ X.s₀.heap.objs.size ≤ b) ∧ b ≠ X.env.locals ∧ (∀ x c, X.env.cells.lookup x = some c → c ≠ b) ∧ ∀ p ∈ X.pn ++ pins, p.1 ≠ b) : Inv X pins σ H' s' := by
  obtain ⟨h', g', d', t', o'⟩ := s'
  have e : o' = s.os := ho
  subst e
  exact I.call (g' := g') (t' := t') (d' := d') u hok hg hch
end
noncomputable abbrev XK := Value → Option Addr → Hp → Prop
noncomputable abbrev St := List (Option V)
noncomputable abbrev VK := V → Hp → Prop
noncomputable abbrev TE := St → Hp → VK → Prop
noncomputable abbrev TT := St → Hp → (Bool → Hp → Prop) → Prop
noncomputable abbrev TA := St → Hp → (List V → Hp → Prop) → Prop
structure Ends where
  nx : St → Hp → Prop
  rt : VK
  bk : St → Hp → Prop := fun _ _ => False
  ct : St → Hp → Prop := fun _ _ => False
noncomputable abbrev TS := Ends → St → Hp → Prop
noncomputable def EP (X : Cx) (pins : List (Addr × Obj)) (σ : St) (Q : VK) (u : Value) (s' : Shared) : Prop := ∃ v H', Inv X pins σ H' s' ∧ RelV v u ∧ Q v H'
noncomputable def TP (X : Cx) (pins : List (Addr × Obj)) (σ : St) (Q : Bool → Hp → Prop) (b : Bool) (s' : Shared) : Prop := ∃ H', Inv X pins σ H' s' ∧ Q b H'
noncomputable def AP (X : Cx) (pins : List (Addr × Obj)) (σ : St) (Q : List V → Hp → Prop) (us : List Value) (s' : Shared) : Prop := ∃ vs H', Inv X pins σ H' s' ∧ Vals vs us ∧ Q vs H'
noncomputable def SP (X : Cx) (pins : List (Addr × Obj)) (D : Ends) (f : Flow) (s' : Shared) : Prop :=
  match f with
  | .next => ∃ σ' H', Inv X pins σ' H' s' ∧ D.nx σ' H'
  | .brk => ∃ σ' H', Inv X pins σ' H' s' ∧ D.bk σ' H'
  | .cont => ∃ σ' H', Inv X pins σ' H' s' ∧ D.ct σ' H'
  | .ret u => ∃ v σ' H', Inv X pins σ' H' s' ∧ RelV v u ∧ D.rt v H'
noncomputable def PE (X : Cx) (e : Expr) (t : TE) : Prop :=
  ∀ (pins : List (Addr × Obj)) (s : Shared) (σ : St) (H : Hp) (Q : VK), Inv X pins σ H s → t σ H Q → wpAny (model X.prog X.w) X.A (eval e X.env) (EP X pins σ Q) X.xe s
noncomputable def PT (X : Cx) (e : Expr) (t : TT) : Prop :=
  ∀ (pins : List (Addr × Obj)) (s : Shared) (σ : St) (H : Hp) (Q : Bool → Hp → Prop), Inv X pins σ H s → t σ H Q → wpAny (model X.prog X.w) X.A (isTrue e X.env (eval e X.env)) (TP X pins σ Q) X.xe s
noncomputable def PW (X : Cx) (e : Expr) (t : TT) : Prop :=
  ∀ (whole : Sem Value) (pins : List (Addr × Obj)) (s : Shared) (σ : St) (H : Hp) (Q : Bool → Hp → Prop), Inv X pins σ H s → t σ H Q → wpAny (model X.prog X.w) X.A (isTrue e X.env whole) (TP X pins σ Q) X.xe s
theorem PW.pt {X : Cx} {e : Expr} {t : TT} (h : PW X e t) : PT X e t := h _
noncomputable def PA (X : Cx) (es : List Expr) (t : TA) : Prop :=
  ∀ (pos : Pos) (pins : List (Addr × Obj)) (s : Shared) (σ : St) (H : Hp) (Q : List V → Hp → Prop), Inv X pins σ H s → t σ H Q → wpAny (model X.prog X.w) X.A (spliced (backTo pos (starEach es X.env))) (AP X pins σ Q) X.xe s
noncomputable def PS (X : Cx) (st : Stmt) (t : TS) : Prop :=
  ∀ (pins : List (Addr × Obj)) (s : Shared) (σ : St) (H : Hp) (D : Ends), Inv X pins σ H s → t D σ H → wpAny (model X.prog X.w) X.A (exec st X.env) (SP X pins D) X.xe s
noncomputable def PSs (X : Cx) (st : List Stmt) (t : TS) : Prop :=
  ∀ (pins : List (Addr × Obj)) (s : Shared) (σ : St) (H : Hp) (D : Ends), Inv X pins σ H s → t D σ H → wpAny (model X.prog X.w) X.A (execs st X.env) (SP X pins D) X.xe s
theorem thn {α : Type} {t : Sem α} {Q Q' : α → Shared → Prop} {M : Model} {A : Around} {E : Value → Shared → Prop} {s : Shared} (h : wpAny M A t Q E s) (hQ : ∀ a s, Q a s → Q' a s) : wpAny M A t Q' E s := wpAny_mono h hQ fun _ _ x => x
end L2
namespace L2
open PySem PySem.Spec PyProof.Rows
section
variable {X : Cx}
theorem bin {a b : Expr} {ta tb : TE} (ha : PE X a ta) (hb : PE X b tb) {pins : List (Addr × Obj)} {s : Shared} {σ : St} {H : Hp} {R : V → V → Hp → Prop} (I : Inv X pins σ H s) (h : ta σ H fun x H1 => tb σ H1 fun y H2 => R x y H2)
    {α : Type} {Q : α → Shared → Prop} {f : Value → Value → Sem α}
    (hf : ∀ v u s2 x y H2, Inv X pins σ H2 s2 → RelV x v → RelV y u → R x y H2 → wpAny (model X.prog X.w) X.A (f v u) Q X.xe s2) :
    wpAny (model X.prog X.w) X.A (eval a X.env) (fun v s₁ => wpAny (model X.prog X.w) X.A (eval b X.env) (fun u s₂ => wpAny (model X.prog X.w) X.A (f v u) Q X.xe s₂) X.xe s₁) X.xe s := by
  refine thn (ha pins s σ H _ I h) fun v s1 ⟨x, H1, I1, r1, q1⟩ => ?_
  refine thn (hb pins s1 σ H1 _ I1 q1) fun u s2 ⟨y, H2, I2, r2, q2⟩ => ?_
  exact hf v u s2 x y H2 I2 r1 r2 q2
noncomputable def tVar (i : Nat) : TE := fun σ H Q => ∃ v, σ[i]? = some (some v) ∧ Q v H
noncomputable def tC (v : V) : TE := fun _ H Q => Q v H
theorem pe_var {i : Nat} {x : Str} {pos : Pos} (hN : X.N[i]? = some x) (hv : Vis X.env.scope x) (hd : (x == ("__debug__" : Str)) = false := by decide) (hcd : (x == ("__classdict__" : Str)) = false := by decide) : PE X (.Name x pos) (tVar i) := by
  intro pins s σ H Q I h
  obtain ⟨v, e, h⟩ := h
  obtain ⟨m, hn, hl⟩ := I.loc
  obtain ⟨u, r, l⟩ := hl i x v hN e hv
  have fin : EP X pins σ Q u s := ⟨v, H, I, r, h⟩
  rcases l with ⟨hk, hm⟩ | ⟨hk, c, hc, hcell⟩
  · exact wpAny_Name (wpAny_loadName_local I.ok.kind hk hn hm fin) hd
  · rcases hk with hk | hk
    · exact wpAny_Name (wpAny_loadName_cell I.ok.kind hk hc hcell fin) hd
    · exact wpAny_Name (wpAny_loadName_free I.ok.kind hk hc hcell fin hcd) hd
theorem pe_int {i j pos} : PE X (.Constant (.int i) j pos) (tC (.int i)) := fun _ _ _ H _ I h => wpAny_Constant_int ⟨.int i, H, I.tok _, ⟨_, rfl⟩, h⟩
theorem pe_bl {b j pos} : PE X (.Constant (.bool b) j pos) (tC (.bl b)) := fun _ _ _ H _ I h => Constant_bool ⟨.bl b, H, I, rfl, h⟩
theorem pe_non {j pos} : PE X (.Constant .none j pos) (tC .non) := fun _ _ _ H _ I h => Constant_none ⟨.non, H, I, rfl, h⟩
theorem pe_str {x j pos} : PE X (.Constant (.str x) j pos) (tC (.str x)) := fun _ _ _ H _ I h => Calls.Constant_str ⟨.str x, H, I.tok _, ⟨_, rfl⟩, h⟩
noncomputable def Gl (X : Cx) (x : Str) : Prop := X.env.kindOf x = some .globalImplicit
theorem ld_glob {E : Value → Shared → Prop} {pins : List (Addr × Obj)} {s : Shared} {σ : St} {H : Hp} {x : Str} {u : Value} {pos : Pos} {Q : Value → Shared → Prop} (I : Inv X pins σ H s) (hg : Gl X x) (hm : X.mg x = some u) (h : Q u s)
    (hd : (x == ("__debug__" : Str)) = false := by decide) : wpAny (model X.prog X.w) X.A (eval (.Name x pos) X.env) Q E s :=
  Calls.Name_function_global I.ok.kind hg (Calls.loadGlobal_global (by rw [I.ok.glob]; exact I.mod.glob.keeps I.bk) hm h) hd
theorem ld_blt {E : Value → Shared → Prop} {pins : List (Addr × Obj)} {s : Shared} {σ : St} {H : Hp} {x : Str} {u : Value} {pos : Pos} {Q : Value → Shared → Prop} (I : Inv X pins σ H s) (hg : Gl X x) (hm : X.mg x = none) (hv : bootBuiltins x = some u) (h : Q u s)
    (hn : x ≠ "__name__" := by decide) (hd : (x == ("__debug__" : Str)) = false := by decide) : wpAny (model X.prog X.w) X.A (eval (.Name x pos) X.env) Q E s := by
  obtain ⟨mb, h1, h2⟩ := I.mod.blt
  exact Calls.Name_function_global I.ok.kind hg (Calls.loadGlobal_builtin (by rw [I.ok.glob]; exact I.mod.glob.keeps I.bk) hm (by rw [I.ok.blt]; exact h1.keeps I.bk) ((h2 x hn).trans hv) h) hd
theorem pe_bltn {x : Str} {v : V} {u : Value} {pos : Pos} (hg : Gl X x) (hm : X.mg x = none) (hv : bootBuiltins x = some u) (r : RelV v u) (hn : x ≠ "__name__" := by decide) (hd : (x == ("__debug__" : Str)) = false := by decide) : PE X (.Name x pos) (tC v) :=
  fun _ _ _ H _ I h => ld_blt I hg hm hv ⟨v, H, I, r, h⟩ hn hd
variable {a b : Expr} {ta tb : TE} {pos : Pos}
noncomputable def PC (X : Cx) (op : CmpOp) (a b : Expr) (t : TE) : Prop :=
  ∀ (pins : List (Addr × Obj)) (s : Shared) (σ : St) (H : Hp) (Q : VK), Inv X pins σ H s → t σ H Q →
    wpAny (model X.prog X.w) X.A (eval a X.env) (fun v s₁ => wpAny (model X.prog X.w) X.A (eval b X.env) (fun u s₂ => wpAny (model X.prog X.w) X.A (compareOp op v u) (EP X pins σ Q) X.xe s₂) X.xe s₁) X.xe s
theorem nobehind (b : Expr) {op : CmpOp} (h : op ≠ .In) (h2 : op ≠ .NotIn) : behindInMarks op b = false := by
  have e1 : (op == CmpOp.In) = false := by cases op <;> first | rfl | exact absurd rfl h
  have e2 : (op == CmpOp.NotIn) = false := by cases op <;> first | rfl | exact absurd rfl h2
  cases b <;> simp [behindInMarks, e1, e2]
noncomputable def tB (t : TE) : TT := fun σ H Q => t σ H fun x H1 => ∃ c, x = .bl c ∧ Q c H1
theorem pt_cmp {op : CmpOp} {t : TE} (h : PC X op a b t) (h1 : behindInMarks op b = false := by first | exact nobehind _ (by decide) (by decide) | rfl) : PT X (.Compare a [op] [b] pos) (tB t) := by
  intro pins s σ H Q I hw
  refine wpAny_isTrue_Compare1 (thn (h pins s σ H _ I hw) fun v s1 h1 => thn h1 fun u s2 h2 => thn h2 fun c s3 ⟨x, H1, I1, r1, q1⟩ => ?_) h1
  obtain ⟨d, rfl, q⟩ := q1
  cases r1
  exact wpAny_truthy_bool ⟨H1, I1, q⟩
theorem pt_val {e : Expr} {t : TE} (h : PE X e t) (he : ∀ whole, isTrue e X.env whole = (do let v ← whole; standAt e.pos; holding [v] (truthy v)) := by intro _; rfl) : PT X e (tB t) := by
  intro pins s σ H Q I hw
  refine isTrue_plain (thn (h pins s σ H _ I hw) fun v s1 ⟨x, H1, I1, r1, q1⟩ => ?_) (he _)
  obtain ⟨d, rfl, q⟩ := q1
  cases r1
  exact wpAny_truthy_bool ⟨H1, I1, q⟩
variable {tA tB' : TT} {rest : List Expr}
noncomputable def tAnd (t u : TT) : TT := fun σ H Q => t σ H fun c H1 => if c = true then u σ H1 Q else Q false H1
noncomputable def tOr (t u : TT) : TT := fun σ H Q => t σ H fun c H1 => if c = true then Q true H1 else u σ H1 Q
noncomputable def tNot (t : TT) : TT := fun σ H Q => t σ H fun c H1 => Q (!c) H1
theorem pw_and1 (ha : PT X a tA) : PW X (.BoolOp .And [a] pos) tA := by
  intro wh pins s σ H Q I h
  refine isTrue_and (thn (ha pins s σ H Q I h) fun c s1 e => ?_)
  cases c with
  | true => exact isTrue_and_nil e
  | false => exact e
theorem pw_or1 (ha : PT X a tA) : PW X (.BoolOp .Or [a] pos) tA := by
  intro wh pins s σ H Q I h
  refine isTrue_or (thn (ha pins s σ H Q I h) fun c s1 e => ?_)
  cases c with
  | false => exact isTrue_or_nil e
  | true => exact e
theorem pw_and (ha : PT X a tA) (hb : PW X (.BoolOp .And (b :: rest) pos) tB') : PW X (.BoolOp .And (a :: b :: rest) pos) (tAnd tA tB') := by
  intro wh pins s σ H Q I h
  refine isTrue_and (thn (ha pins s σ H _ I h) fun c s1 ⟨H1, I1, q1⟩ => ?_)
  cases c with
  | true => exact hb wh pins s1 σ H1 Q I1 q1
  | false => exact ⟨H1, I1, q1⟩
theorem pw_or (ha : PT X a tA) (hb : PW X (.BoolOp .Or (b :: rest) pos) tB') : PW X (.BoolOp .Or (a :: b :: rest) pos) (tOr tA tB') := by
  intro wh pins s σ H Q I h
  refine isTrue_or (thn (ha pins s σ H _ I h) fun c s1 ⟨H1, I1, q1⟩ => ?_)
  cases c with
  | true => exact ⟨H1, I1, q1⟩
  | false => exact hb wh pins s1 σ H1 Q I1 q1
theorem pt_not (ha : PT X a tA) : PT X (.UnaryOp .Not a pos) (tNot tA) := by
  intro pins s σ H Q I h
  exact isTrue_not (ha pins s σ H (fun c H1 => Q (!c) H1) I h)
noncomputable def tAndV (ta tb : TE) : TE := fun σ H Q => ta σ H fun x H1 => ∃ c, x = .bl c ∧ if c = true then tb σ H1 Q else Q (.bl false) H1
noncomputable def tNotV (ta : TE) : TE := fun σ H Q => ta σ H fun x H1 => ∃ c, x = .bl c ∧ Q (.bl (!c)) H1
theorem pe_one {op} {t : TE} (h : PE X a t) : PE X (.BoolOp op [a] pos) t := fun pins s σ H Q I hw => BoolOp_one (h pins s σ H Q I hw)
theorem pe_and (ha : PE X a ta) (hb : PE X (.BoolOp .And (b :: rest) pos) tb) : PE X (.BoolOp .And (a :: b :: rest) pos) (tAndV ta tb) := by
  intro pins s σ H Q I h
  refine BoolOp_and (thn (ha pins s σ H _ I h) fun v s1 ⟨x, H1, I1, r1, q1⟩ => ?_)
  obtain ⟨c, rfl, q1⟩ := q1
  cases r1
  refine wpAny_truthy_bool ?_
  cases c with
  | true => exact hb pins s1 σ H1 Q I1 q1
  | false => exact ⟨.bl false, H1, I1, rfl, q1⟩
theorem pe_not (ha : PE X a ta) : PE X (.UnaryOp .Not a pos) (tNotV ta) := by
  intro pins s σ H Q I h
  refine UnaryOp_ (thn (ha pins s σ H _ I h) fun v s1 ⟨x, H1, I1, r1, q1⟩ => ?_)
  obtain ⟨c, rfl, q1⟩ := q1
  cases r1
  exact not_of (wpAny_truthy_bool ⟨.bl (!c), H1, I1, rfl, q1⟩)
end
end L2
namespace L2
open PySem PySem.Spec PyProof.Rows
noncomputable def SqL (K : PySem.W.Frag) (H : Hp) (a : Addr) (xs : List V) : Prop :=
  Rd H a (.lst xs) ∨
    ∃ (o : Obj) (its : Array Value) (n : Nat), K.lookup a = some o ∧ o.cls = .type "list" ∧ o.dict = none ∧ o.data = .seq its n ∧ its.size ≤ sizeLine ∧ Vals xs its.toList
noncomputable def SqT (K : PySem.W.Frag) (H : Hp) (a : Addr) (xs : List V) : Prop :=
  Rd H a (.tup xs) ∨
    ∃ (o : Obj) (its : Array Value) (n : Nat), K.lookup a = some o ∧ o.cls = .type "tuple" ∧ o.data = .seq its n ∧ its.size ≤ sizeLine ∧ Vals xs its.toList
noncomputable def absV : Value → Option V
  | .none => some .non
  | .bool b => some (.bl b)
  | .int i _ => some (.int i)
  | .str x _ => some (.str x)
  | .bytes b _ => some (.byt b)
  | .float b _ => some (.flt b)
  | .ref a => some (.ref a)
  | .type n => some (.ty n)
  | _ => none
theorem RelV.abs {x : V} {u : Value} (r : RelV x u) : absV u = some x := by
  cases x with
  | non => cases r; rfl
  | bl _ => cases r; rfl
  | int _ => obtain ⟨t, rfl⟩ := r; rfl
  | str _ => obtain ⟨t, rfl⟩ := r; rfl
  | byt _ => obtain ⟨t, rfl⟩ := r; rfl
  | flt _ => obtain ⟨t, rfl⟩ := r; rfl
  | ref _ => cases r; rfl
  | ty _ => cases r; rfl
theorem RelV.inj {x y : V} {u : Value} (r : RelV x u) (q : RelV y u) : x = y := Option.some.inj (r.abs.symm.trans q.abs)
theorem Vals.inj : ∀ {xs ys : List V} {us : List Value}, Vals xs us → Vals ys us → xs = ys
  | _, _, _, .nil, .nil => rfl
  | _, _, _, .cons r t, .cons r' t' => by rw [r.inj r', Vals.inj t t']
section
variable {X : Cx} {pins : List (Addr × Obj)} {σ : St} {H : Hp} {s : Shared} {a : Addr} {xs ys : List V}
theorem SqL.of {K : PySem.W.Frag} (h : H a = some (.lst xs)) : SqL K H a xs := .inl (.inl h)
theorem SqT.of {K : PySem.W.Frag} (h : H a = some (.tup xs)) : SqT K H a xs := .inl (.inl h)
theorem Inv.list (I : Inv X pins σ H s) (h : SqL X.K H a xs) : ∃ its : List Value, Vals xs its ∧ PlainL s.heap a its.toArray ∧ xs.length ≤ sizeLine := by
  rcases h with h | ⟨o, its, n, hk, hc, hd, hs, hz, r⟩
  · obtain ⟨z, its, n, r, e⟩ := h.ok I.hok
    exact ⟨its, r, ⟨_, n, e, rfl, rfl, rfl⟩, z⟩
  · refine ⟨its.toList, r, ⟨o, n, I.kIn a o hk, hc, hd, by simpa using hs⟩, ?_⟩
    have e := r.length
    simp only [Array.length_toList] at e
    omega
theorem Inv.tuple (I : Inv X pins σ H s) (h : SqT X.K H a xs) : ∃ its : List Value, Vals xs its ∧ IsTup s.heap a its.toArray ∧ xs.length ≤ sizeLine := by
  rcases h with h | ⟨o, its, n, hk, hc, hs, hz, r⟩
  · obtain ⟨z, its, r, p⟩ := h.ok I.hok
    exact ⟨its, r, p, z⟩
  · refine ⟨its.toList, r, ⟨o, I.kIn a o hk, hc, n, by simpa using hs⟩, ?_⟩
    have e := r.length
    simp only [Array.length_toList] at e
    omega
theorem Inv.list_inj (I : Inv X pins σ H s) (h : SqL X.K H a xs) (h' : SqL X.K H a ys) : xs = ys := by
  obtain ⟨its, r, ⟨o, n, e, _, _, d⟩, _⟩ := I.list h
  obtain ⟨its', r', ⟨o', n', e', _, _, d'⟩, _⟩ := I.list h'
  rw [e] at e'; cases e'
  rw [d] at d'
  injection d' with d1 _
  have : its = its' := by simpa using congrArg Array.toList d1
  subst this
  exact r.inj r'
end
noncomputable abbrev Cx.wish (X : Cx) (E : Value → Shared → Prop) : Cx := { X with xe := E }
noncomputable abbrev Cx.nox (X : Cx) : Cx := X.wish fun _ _ => False
theorem Cx.Ok.wish {X : Cx} (ok : X.Ok) (E : Value → Shared → Prop) : (X.wish E).Ok :=
  ⟨ok.mod, ok.kind, ok.glob, ok.blt, ok.above, ok.inj, ok.has, ok.cab, ok.hd, ok.frames, ok.stk, ok.exf, ok.bs, ok.bsz, ok.noex, ok.exfs, ok.funs, ok.frf⟩
theorem Cx.Ok.unwish {X : Cx} {E : Value → Shared → Prop} (ok : (X.wish E).Ok) : X.Ok :=
  ⟨ok.mod, ok.kind, ok.glob, ok.blt, ok.above, ok.inj, ok.has, ok.cab, ok.hd, ok.frames, ok.stk, ok.exf, ok.bs, ok.bsz, ok.noex, ok.exfs, ok.funs, ok.frf⟩
section
variable {X : Cx} {pins : List (Addr × Obj)} {σ : St} {H : Hp} {s : Shared} {E : Value → Shared → Prop}
theorem Inv.wish (I : Inv X pins σ H s) (E : Value → Shared → Prop) : Inv (X.wish E) pins σ H s := ⟨I.ok.wish E, I.os, I.bare, I.base, I.loc, I.cell, I.free, I.freeC, I.pin, I.hok, I.len⟩
theorem Inv.unwish (I : Inv (X.wish E) pins σ H s) : Inv X pins σ H s := ⟨I.ok.unwish, I.os, I.bare, I.base, I.loc, I.cell, I.free, I.freeC, I.pin, I.hok, I.len⟩
theorem SP.unwish {D : Ends} {f : Flow} {s' : Shared} (h : SP (X.wish E) pins D f s') : SP X pins D f s' := by
  cases f with
  | next => obtain ⟨σ', H', I, q⟩ := h; exact ⟨σ', H', I.unwish, q⟩
  | brk => obtain ⟨σ', H', I, q⟩ := h; exact ⟨σ', H', I.unwish, q⟩
  | cont => obtain ⟨σ', H', I, q⟩ := h; exact ⟨σ', H', I.unwish, q⟩
  | ret u => obtain ⟨v, σ', H', I, r, q⟩ := h; exact ⟨v, σ', H', I.unwish, r, q⟩
theorem PSs.nox {st : List Stmt} {t : TS} (h : PSs X.nox st t) : PSs X st t := fun pins s σ H D I hw =>
  wpAny_mono (h pins s σ H D (I.wish _) hw) (fun _ _ q => q.unwish) fun _ _ z => False.elim z
end
section
variable {X : Cx} {st : Stmt} {rest : List Stmt} {t u : TS} {e : Expr} {te : TE} {pos : Pos}
noncomputable def tNext : TS := fun D σ H => D.nx σ H
noncomputable def tSeq (t u : TS) : TS := fun D σ H => t { D with nx := u D } σ H
theorem pss_nil : PSs X [] tNext := fun _ _ σ H _ I h => wpAny_execs_nil ⟨σ, H, I, h⟩
theorem pss_cons (h1 : PS X st t) (h2 : PSs X rest u) : PSs X (st :: rest) (tSeq t u) := by
  intro pins s σ H D I h
  refine wpAny_execs_cons (thn (h1 pins s σ H { D with nx := u D } I h) fun f s1 q => ?_)
  cases f with
  | next =>
    obtain ⟨σ', H', I', q⟩ := q
    exact h2 pins s1 σ' H' D I' q
  | ret v => exact q
  | brk => exact q
  | cont => exact q
theorem pss_one (h1 : PS X st t) : PSs X [st] t := by
  intro pins s σ H D I h
  refine wpAny_execs_cons (thn (h1 pins s σ H D I h) fun f s1 q => ?_)
  cases f with
  | next => exact wpAny_execs_nil q
  | ret v => exact q
  | brk => exact q
  | cont => exact q
theorem Inv.quiet {pins : List (Addr × Obj)} {σ : St} {H : Hp} {s : Shared} (I : Inv X pins σ H s) : interactive X.env = false := by simp [interactive, I.ok.kind]
noncomputable def tDrop (te : TE) : TS := fun D σ H => te σ H fun _ H1 => D.nx σ H1
theorem ps_expr (he : PE X e te) (hs : swapsWith e none pos.line X.env = pure false := by rfl) : PS X (.Expr e pos) (tDrop te) := by
  intro pins s σ H D I h
  exact wpAny_Expr_any (thn (he pins s σ H _ I h) fun v s1 ⟨x, H1, I1, r1, q1⟩ => ⟨σ, H1, I1, q1⟩) I.quiet hs
noncomputable def tRet (te : TE) : TS := fun D σ H => te σ H D.rt
theorem ps_ret (he : PE X e te) : PS X (.Return (some e) pos) (tRet te) := by
  intro pins s σ H D I h
  exact wpAny_Return_some (thn (he pins s σ H _ I h) fun v s1 ⟨x, H1, I1, r1, q1⟩ => ⟨x, σ, H1, I1, r1, q1⟩)
noncomputable def tIfS (c : TT) (t u : TS) : TS := fun D σ H => c σ H fun b H1 => if b = true then t D σ H1 else u D σ H1
theorem ps_if {c : Expr} {a b : List Stmt} {tc : TT} (hc : PT X c tc) (ha : PSs X a t) (hb : PSs X b u) : PS X (.If c a b pos) (tIfS tc t u) := by
  intro pins s σ H D I h
  refine wpAny_If (thn (hc pins s σ H _ I h) fun d s1 ⟨H1, I1, q1⟩ => ?_)
  cases d with
  | true => exact ha pins s1 σ H1 D I1 q1
  | false => exact hb pins s1 σ H1 D I1 q1
noncomputable def tNever : TS := fun _ _ _ => False
theorem pss_never {sts : List Stmt} : PSs X sts tNever := fun _ _ _ _ _ _ h => h.elim
end
noncomputable abbrev TG := V → St → Hp → (St → Hp → Prop) → Prop
noncomputable abbrev TGs := List V → St → Hp → (St → Hp → Prop) → Prop
noncomputable def PG (X : Cx) (target : Expr) (t : TG) : Prop :=
  ∀ (pins : List (Addr × Obj)) (s : Shared) (σ : St) (H : Hp) (v : V) (u : Value) (Q : St → Hp → Prop), Inv X pins σ H s → RelV v u → t v σ H Q →
    wpAny (model X.prog X.w) X.A (assign target X.env u) (fun _ s' => ∃ σ' H', Inv X pins σ' H' s' ∧ Q σ' H') X.xe s
noncomputable def PGs (X : Cx) (ts : List Expr) (t : TGs) : Prop :=
  ∀ (pins : List (Addr × Obj)) (s : Shared) (σ : St) (H : Hp) (vs : List V) (us : List Value) (Q : St → Hp → Prop), Inv X pins σ H s → Vals vs us → t vs σ H Q →
    wpAny (model X.prog X.w) X.A (assignInOrder ((assignEach ts X.env).map (·.2)) us) (fun _ s' => ∃ σ' H', Inv X pins σ' H' s' ∧ Q σ' H') X.xe s
noncomputable abbrev TSet := V → V → V → Hp → (Hp → Prop) → Prop
noncomputable def PSet (X : Cx) (t : TSet) : Prop :=
  ∀ (pins : List (Addr × Obj)) (s : Shared) (σ : St) (H : Hp) (o i v : V) (ov iv u : Value) (Q : Hp → Prop), Inv X pins σ H s → RelV o ov → RelV i iv → RelV v u → t o i v H Q →
    wpAny (model X.prog X.w) X.A (setItem ov iv u) (fun _ s' => ∃ H', Inv X pins σ H' s' ∧ Q H') X.xe s
section
variable {X : Cx} {pos : Pos}
noncomputable def gName (i : Nat) : TG := fun v σ H Q => Q (σ.set i (some v)) H
theorem pg_name {i : Nat} {x : Str} (hN : X.N.Nodup) (hi : X.N[i]? = some x) (hx : Loc X.env.scope x) (hf : X.fn x = true ∨ X.env.scope.names.lookup x = some .local := by first | exact .inl rfl | exact .inr rfl | assumption) : PG X (.Name x pos) (gName i) := by
  intro pins s σ H v u Q I r h
  exact wpAny_assign_Name (store_ok I hN hi hx r (fun s' I' => ⟨_, H, I', h⟩) hf)
noncomputable def gNil : TGs := fun vs σ H Q => vs = [] ∧ Q σ H
noncomputable def gCons (t : TG) (u : TGs) : TGs := fun vs σ H Q => ∃ v r, vs = v :: r ∧ t v σ H fun σ' H' => u r σ' H' Q
theorem pgs_nil : PGs X [] gNil := by
  intro pins s σ H vs us Q I r h
  obtain ⟨e, h⟩ := h
  subst e
  cases r
  exact assignInOrder_nil ⟨σ, H, I, h⟩
theorem pgs_cons {e : Expr} {es : List Expr} {t : TG} {u : TGs} (h1 : PG X e t) (h2 : PGs X es u)
    (hs : (assignEach (e :: es) X.env).map (·.2) = assign e X.env :: (assignEach es X.env).map (·.2) := by rfl) : PGs X (e :: es) (gCons t u) := by
  intro pins s σ H vs us Q I r h
  obtain ⟨v, vr, e1, h⟩ := h
  subst e1
  cases r with
  | cons r rr =>
    rw [hs]
    refine assignInOrder_cons (thn (h1 pins s σ H _ _ _ I r h) fun _ s1 ⟨σ1, H1, I1, q1⟩ => ?_)
    exact h2 pins s1 σ1 H1 _ _ Q I1 rr q1
noncomputable def gTup (K : PySem.W.Frag) (n : Nat) (t : TGs) : TG := fun v σ H Q => ∃ a xs, v = .ref a ∧ SqT K H a xs ∧ xs.length = n ∧ t xs σ H Q
theorem pg_tup {es : List Expr} {k : Nat} {t : TGs} {n : Nat} (hc : X.calm = true) (h : PGs X es t)
    (hn : (assignEach es X.env).length = n := by rfl) (hst : (assignEach es X.env).findIdx? (·.1) = none := by rfl) : PG X (.Tuple es k pos) (gTup X.K n t) := by
  intro pins s σ H v u Q I r hw
  obtain ⟨a, xs, e1, hq, hl, hw⟩ := hw
  subst e1
  cases r
  obtain ⟨its, rv, ht, hz⟩ := I.tuple hq
  refine assign_Tuple_tuple (I.ok.hd hc) ht (by simp [hn, ← hl, rv.length]) hst fun h' hx => ?_
  have I1 : Inv X pins σ H { s with heap := h' } := I.kept (t' := s.toks) fun b o e => hx b o (Nat.ne_of_lt (Heap.lt_size e)) e
  exact h pins _ σ H xs _ Q I1 (by simpa using rv) hw
noncomputable def gSub (to ti : TE) (t : TSet) : TG := fun v σ H Q => to σ H fun o H1 => ti σ H1 fun i H2 => t o i v H2 fun H3 => Q σ H3
theorem pg_sub {o i : Expr} {to ti : TE} {t : TSet} (ho : PE X o to) (hi : PE X i ti) (hs : PSet X t)
    (ha : ∀ v, assign (.Subscript o i pos) X.env v = (do
      let ov ← holding [v] (eval o X.env)
      let iv ← holding [v, ov] (eval i X.env)
      standAt pos
      holding [v, ov, iv] (setItem ov iv v)
      release [v, ov, iv] []) := by intro _; rfl) : PG X (.Subscript o i pos) (gSub to ti t) := by
  intro pins s σ H v u Q I r h
  rw [ha]
  refine wpAny_bind (wpAny_holding (thn (ho pins s σ H _ I h) fun ov s1 ⟨x, H1, I1, r1, q1⟩ => ?_))
  refine wpAny_bind (wpAny_holding (thn (hi pins s1 σ H1 _ I1 q1) fun iv s2 ⟨y, H2, I2, r2, q2⟩ => ?_))
  refine wpAny_bind (wpAny_standAt (wpAny_bind (wpAny_holding (thn (hs pins s2 σ H2 x y v ov iv u _ I2 r1 r2 r q2) fun _ s3 ⟨H3, I3, q3⟩ => ?_))))
  exact wpAny_release ⟨σ, H3, I3, q3⟩
noncomputable def tAsg (te : TE) (g : TG) : TS := fun D σ H => te σ H fun x H1 => g x σ H1 D.nx
theorem ps_asg {tg e : Expr} {te : TE} {g : TG} (he : PE X e te) (hg : PG X tg g) (hs : swapsWithSole [tg] e pos.line X.env = pure false := by rfl) (hw : swappedStores [tg] e X.env = pure none := by rfl)
    (h1 : (assignEach [tg] X.env).map (·.2) = [assign tg X.env] := by rfl) : PS X (.Assign [tg] e pos) (tAsg te g) := by
  intro pins s σ H D I h
  refine wpAny_Assign_stores (thn (he pins s σ H _ I h) fun v s1 ⟨x, H1, I1, r1, q1⟩ => ?_) hs hw
  rw [h1]
  exact thn (hg pins s1 σ H1 x v _ I1 r1 q1) fun _ s2 q => q
theorem ps_set {i : Nat} {x : Str} {e : Expr} {te : TE} {pos' : Pos} (hN : X.N.Nodup) (hi : X.N[i]? = some x) (hx : Loc X.env.scope x) (he : PE X e te) (hs : swapsWith e (some (.Name x pos')) pos.line X.env = pure false := by rfl) (hf : X.fn x = true ∨ X.env.scope.names.lookup x = some .local := by first | exact .inl rfl | exact .inr rfl | assumption) :
    PS X (.Assign [.Name x pos'] e pos) (tAsg te (gName i)) := by
  intro pins s σ H D I h
  refine wpAny_Assign_Name (thn (he pins s σ H _ I h) fun v s1 ⟨y, H1, I1, r1, q1⟩ => ?_) hs
  exact store_ok I1 hN hi hx r1 (fun s2 I2 => ⟨_, H1, I2, q1⟩) hf
end
section
variable {X : Cx} {pos : Pos}
end
structure It where
  go : Nat → Hp → Prop
  yld : Nat → Hp → V → Hp → Prop
  stop : Nat → Hp → Prop
noncomputable def FpOk (X : Cx) (pins : List (Addr × Obj)) (H : Hp) (b : Addr) : Prop :=
  H b = none ∧ b ≠ X.env.locals ∧ b ∉ X.fs ∧ (b ∈ X.ex ∨ X.s₀.heap.objs.size ≤ b) ∧ (∀ x c, X.env.cells.lookup x = some c → c ≠ b) ∧ ∀ p ∈ X.pn ++ pins, p.1 ≠ b
theorem Inv.fpOk {X : Cx} {pins : List (Addr × Obj)} {σ : St} {H H' : Hp} {s : Shared} {b : Addr} (I : Inv X pins σ H s) (hb : s.heap.objs.size ≤ b) (hn : H' b = none) : FpOk X pins H' b := by
  refine ⟨hn, Nat.ne_of_gt (Nat.lt_of_lt_of_le I.lt hb), I.nofs hb, .inr (Nat.le_trans I.sz hb), fun x c e z => ?_, fun p hp z => ?_⟩
  · obtain ⟨v, q⟩ := I.cell x c e
    exact absurd (Nat.lt_of_lt_of_le q.lt (by rw [z]; exact hb)) (Nat.lt_irrefl _)
  · exact absurd (Nat.lt_of_lt_of_le (Heap.lt_size (I.pin p hp).1) (by rw [z]; exact hb)) (Nat.lt_irrefl _)
structure Turn (P : Program) (w : World) (K : PySem.W.Frag) (tg : Expr) (J : It) (fp : List Addr) (it : Addr) (tn : Nat → Heap → Prop) : Prop where
  mem : it ∈ fp
  obj : ∀ i h, tn i h → ∀ b ∈ fp, ∃ o, h.get? b = some o ∧ ∀ v, o.data ≠ .cell v
  keep : ∀ i h h', tn i h → (∀ b ∈ fp, ∀ o, h.get? b = some o → h'.get? b = some o) → tn i h'
  item : ∀ (X : Cx), X.prog = P → X.w = w → X.K = K → X.calm = true → ∀ (i : Nat) (pins : List (Addr × Obj)) (s : Shared) (σ : St) (H : Hp) (E : Value → Shared → Prop), Inv X pins σ H s → (∀ b ∈ fp, FpOk X pins H b) → tn i s.heap → J.go i H →
    wpAny (model P w) X.A (pyNext (.ref it)) (fun r s1 => ∃ u, r = some u ∧
      wpAny (model P w) X.A (letOwnedTupleGo tg (.ref it) u) (fun _ s2 => ∃ x H', Inv X pins σ H' s2 ∧ RelV x u ∧ J.yld i H x H' ∧ tn (i + 1) s2.heap ∧ ∀ b ∈ fp, H' b = none) E s1) E s
  done : ∀ (X : Cx), X.prog = P → X.w = w → X.K = K → X.calm = true → ∀ (i : Nat) (pins : List (Addr × Obj)) (s : Shared) (σ : St) (H : Hp) (E : Value → Shared → Prop), Inv X pins σ H s → (∀ b ∈ fp, FpOk X pins H b) → tn i s.heap → J.stop i H →
    wpAny (model P w) X.A (pyNext (.ref it)) (fun r s1 => r = none ∧ Inv X pins σ H s1) E s
  self : ∀ (A : Around) (i : Nat) (s : Shared) (Q : Value → Shared → Prop) (E : Value → Shared → Prop), tn i s.heap → Q (.ref it) s → wpAny (model P w) A (pyIter (.ref it)) Q E s
noncomputable abbrev TI := St → Hp → (It → Hp → Prop) → Prop
noncomputable def PIE (X : Cx) (pins : List (Addr × Obj)) (σ : St) (tg : Expr) (R : It → Hp → Prop) (itv : Value) (s2 : Shared) : Prop :=
  ∃ (it : Addr) (fp : List Addr) (tn : Nat → Heap → Prop) (J : It) (H' : Hp), itv = .ref it ∧ Inv X pins σ H' s2 ∧ Turn X.prog X.w X.K tg J fp it tn ∧ tn 0 s2.heap ∧ (∀ b ∈ fp, FpOk X pins H' b) ∧ R J H'
noncomputable def PI (X : Cx) (tg iter : Expr) (wi : TI) : Prop :=
  ∀ (pins : List (Addr × Obj)) (s : Shared) (σ : St) (H : Hp) (R : It → Hp → Prop), Inv X pins σ H s → wi σ H R →
    wpAny (model X.prog X.w) X.A (eval iter X.env) (fun v s1 => wpAny (model X.prog X.w) X.A (pyIter v) (PIE X pins σ tg R) X.xe s1) X.xe s
theorem go_of {M : Model} {A : Around} {E : Value → Shared → Prop} {s : Shared} {tg : Expr} {it : Addr} {u : Value} {o : Obj} {n : String} {vs : Array Value} {Q : Unit → Shared → Prop} (ho : s.heap.get? it = some o) (hc : o.cls = .type n) (hd : o.data = .fields vs)
    (hn : ["enumerate", "zip", "dict_itemiterator", "dict_reverseitemiterator", "odict_iterator", "itertools.zip_longest", "itertools.pairwise"].contains n = false) (hQ : Q () s) : wpAny M A (letOwnedTupleGo tg (.ref it) u) Q E s := by
  unfold letOwnedTupleGo
  cases tg <;> first
    | exact wpAny_pure hQ
    | (cases u <;> first
        | exact wpAny_pure hQ
        | (refine wpAny_bind (wpAny_load ho ?_)
           rw [hc, hd]
           show wpAny M A (if (["enumerate", "zip", "dict_itemiterator", "dict_reverseitemiterator", "odict_iterator", "itertools.zip_longest", "itertools.pairwise"].contains n && vs[0]? == some (rawInt _)) = true then _ else _) Q E s
           rw [if_neg (by intro h; rw [hn, Bool.false_and] at h; cases h)]
           exact wpAny_pure hQ))
noncomputable def Itl (K : PySem.W.Frag) (a : Addr) : It :=
  ⟨fun i H => ∃ xs x, SqL K H a xs ∧ xs[i]? = some x, fun i H x H' => H' = H ∧ ∀ xs, SqL K H a xs → xs[i]? = some x, fun i H => ∃ xs, SqL K H a xs ∧ xs.length ≤ i⟩
noncomputable def Itr (lo : Int) (n : Nat) : It := ⟨fun i _ => i < n, fun i H x H' => H' = H ∧ x = .int (lo + i), fun i _ => n ≤ i⟩
theorem turn_list {P : Program} {w : World} {K : PySem.W.Frag} {tg : Expr} (a it : Addr) : Turn P w K tg (Itl K a) [it] it (fun i h => h.IsListIter it a i) where
  mem := by simp
  obj := fun i h st b hb => by
    have e : b = it := by simpa using hb
    subst e
    obtain ⟨o, e, c, d⟩ := st
    exact ⟨o, e, fun v z => by rw [d] at z; cases z⟩
  keep := fun i h h' st k => st.at fun o e => k it (by simp) o e
  item := by
    intro X hP hw hK hc i pins s σ H E I hf st hg
    subst hP hw hK
    obtain ⟨xs, x, hq, hx⟩ := hg
    obtain ⟨its, rv, p, hz⟩ := I.list hq
    obtain ⟨u, hu, ru⟩ := rv.get hx
    obtain ⟨f0, f1, f2, f3, f4, f5⟩ := hf it (by simp)
    refine wpAny_pyNext_list_item st p.isList (x := u) (by simpa using hu) fun h' st' sb => ?_
    have I1 : Inv X pins σ H { s with heap := h' } := I.turned (t' := s.toks) (fun b o hb e => (sb.2 b hb).trans e) f0 f1 f3 f4 f5
    obtain ⟨o, e, c, d⟩ := id st'
    exact ⟨u, rfl, go_of (s := { s with heap := h' }) e c d (by decide) ⟨x, H, I1, ru, ⟨rfl, fun ys hy => by rw [I.list_inj hy hq]; exact hx⟩, st', fun b hb => (hf b hb).1⟩⟩
  done := by
    intro X hP hw hK hc i pins s σ H E I hf st hg
    subst hP hw hK
    obtain ⟨xs, hq, hx⟩ := hg
    obtain ⟨its, rv, p, hz⟩ := I.list hq
    obtain ⟨f0, f1, f2, f3, f4, f5⟩ := hf it (by simp)
    have hl := rv.length
    exact wpAny_pyNext_list_end (I.ok.hd hc) st p.isList (by simp; omega) fun h' eb => ⟨rfl, I.turned (t' := s.toks) (fun b o hb e => eb b o hb e) f0 f1 f3 f4 f5⟩
  self := fun _ _ _ _ _ st h => wpAny_pyIter_listiter st h
theorem turn_range {P : Program} {w : World} {K : PySem.W.Frag} {tg : Expr} (it : Addr) (lo : Int) (n : Nat) : Turn P w K tg (Itr lo n) [it] it (fun i h => IsRangeIter h it (lo + (i : Nat) * 1) ((n : Int) - (i : Nat)) 1) where
  mem := by simp
  obj := fun i h st b hb => by
    have e : b = it := by simpa using hb
    subst e
    exact ⟨_, st, fun v z => by
      have z' : Data.fields _ = Data.cell v := z
      cases z'⟩
  keep := fun i h h' st k => k it (by simp) _ st
  item := by
    intro X hP hw hK hc i pins s σ H E I hf st hg
    subst hP hw hK
    obtain ⟨f0, f1, f2, f3, f4, f5⟩ := hf it (by simp)
    have W := Walks.range (prog := X.prog) (w := X.w) (I.ok.hd hc) it lo 1 n
    refine W.item i s _ _ hg st fun v h' tk hv st' kk => ?_
    obtain ⟨t, rfl⟩ := hv
    have I1 : Inv X pins σ H { s with heap := h', toks := tk } := I.turned (fun b o hb e => kk b o (by simpa using hb) e) f0 f1 f3 f4 f5
    refine ⟨_, rfl, go_of (s := { s with heap := h', toks := tk }) (n := "range_iterator") st' rfl rfl (by decide) ⟨.int (lo + i), H, I1, ⟨t, ?_⟩, ⟨rfl, rfl⟩, st', fun b hb => (hf b hb).1⟩⟩
    rw [Int.mul_one]
  done := by
    intro X hP hw hK hc i pins s σ H E I hf st hg
    subst hP hw hK
    obtain ⟨f0, f1, f2, f3, f4, f5⟩ := hf it (by simp)
    exact wpAny_pyNext_range_end (I.ok.hd hc) st (by have : n ≤ i := hg; omega) fun h' eb => ⟨rfl, I.turned (t' := s.toks) (fun b o hb e => eb b o hb e) f0 f1 f3 f4 f5⟩
  self := fun _ _ _ _ _ st h => wpAny_pyIter_rangeiter st h
end L2
namespace L2
open PySem PySem.Spec PyProof.Rows
section
variable {X : Cx} {tg : Expr}
noncomputable def iList (K : PySem.W.Frag) (tl : TE) : TI := fun σ H R => tl σ H fun x H1 => ∃ a, x = .ref a ∧ (∃ xs, SqL K H1 a xs) ∧ R (Itl K a) H1
theorem pi_list {l : Expr} {tl : TE} (hl : PE X l tl) : PI X tg l (iList X.K tl) := by
  intro pins s σ H R I h
  refine thn (hl pins s σ H _ I h) fun v s1 ⟨x, H1, I1, r1, q1⟩ => ?_
  obtain ⟨a, e, ⟨xs, hq⟩, q⟩ := q1
  subst e
  cases r1
  obtain ⟨its, rv, p, hz⟩ := I1.list hq
  refine wpAny_pyIter_list p.isList ?_
  refine ⟨s1.heap.objs.size, [s1.heap.objs.size], _, _, H1, rfl, I1.kept (t' := s1.toks) fun b o e => Heap.get?_push_of_some _ e, turn_list a _, ⟨_, Heap.get?_push_size _ rfl, rfl, rfl⟩, fun b hb => ?_, q⟩
  have e : b = s1.heap.objs.size := by simpa using hb
  subst e
  exact I1.fpOk (Nat.le_refl _) (I1.hok.fresh (Nat.le_refl _))
theorem range_it {pins : List (Addr × Obj)} {σ : St} {H : Hp} {s : Shared} {R : It → Hp → Prop} {E : Value → Shared → Prop} {lo hi : Int} {t u v : Tok} {tk : Nat} (I : Inv X pins σ H s) (h1 : -(2 ^ 62) ≤ lo) (h2 : lo < 2 ^ 62) (h3 : -(2 ^ 62) ≤ hi) (h4 : hi < 2 ^ 62)
    (q : R (Itr lo (hi - lo).toNat) H) : wpAny (model X.prog X.w) X.A (pyIter (.ref s.heap.objs.size)) (PIE X pins σ tg R) E { s with heap := s.heap.push { cls := .type "range", data := .fields #[.int lo t, .int hi u, .int 1 v] }, toks := tk } := by
  refine wpAny_pyIter_range (IsRange.new ..) (small_one h1 h2 h3 h4) ?_
  have I1 : Inv X pins σ H { s with heap := s.heap.push { cls := .type "range", data := .fields #[.int lo t, .int hi u, .int 1 v] }, toks := tk } := I.kept fun b o e => Heap.get?_push_of_some _ e
  refine ⟨(s.heap.push { cls := .type "range", data := .fields #[.int lo t, .int hi u, .int 1 v] }).objs.size, [(s.heap.push { cls := .type "range", data := .fields #[.int lo t, .int hi u, .int 1 v] }).objs.size], _, _, H, rfl,
    I1.kept (t' := tk) fun b o e => Heap.get?_push_of_some _ e, turn_range _ lo (hi - lo).toNat, ?_, fun b hb => ?_, q⟩
  · have e1 : lo + ((0 : Nat) : Int) * 1 = lo := by simp
    have e2 : (((hi - lo).toNat : Nat) : Int) - ((0 : Nat) : Int) = Builtin.Range.rangeSize lo hi 1 := by rw [rangeSize_one]; split <;> omega
    show IsRangeIter _ _ (lo + ((0 : Nat) : Int) * 1) ((((hi - lo).toNat : Nat) : Int) - ((0 : Nat) : Int)) 1
    rw [e1, e2]
    exact Heap.get?_push_size _ rfl
  · have e : b = (s.heap.push { cls := .type "range", data := .fields #[.int lo t, .int hi u, .int 1 v] }).objs.size := by simpa using hb
    subst e
    exact I1.fpOk (Nat.le_refl _) (I1.hok.fresh (Nat.le_refl _))
noncomputable def iRng1 (ta : TA) : TI := fun σ H R => ta σ H fun vs H1 => ∃ j : Int, vs = [.int j] ∧ -(2 ^ 62) ≤ j ∧ j < 2 ^ 62 ∧ R (Itr 0 j.toNat) H1
noncomputable def iRng2 (ta : TA) : TI := fun σ H R => ta σ H fun vs H1 => ∃ i j : Int, vs = [.int i, .int j] ∧ (-(2 ^ 62) ≤ i ∧ i < 2 ^ 62 ∧ -(2 ^ 62) ≤ j ∧ j < 2 ^ 62) ∧ R (Itr i (j - i).toNat) H1
theorem pi_range1 {a : Expr} {ta : TA} {p pos : Pos} (hg : Gl X "range") (hm : X.mg "range" = none) (ha : PA X [a] ta) (hs : starEach [a] X.env = [(false, eval a X.env)] := by rfl) : PI X tg (.Call (.Name "range" p) [a] [] pos) (iRng1 ta) := by
  intro pins s σ H R I h
  refine Call_ (ld_blt I hg hm boot_range (PyProof.Rows.callWith_type1 (thn (ha pos pins s σ H _ I h) fun us s1 ⟨vs, H1, I1, r1, q1⟩ => ?_) hs rfl))
  obtain ⟨j, e, q1, q2, q⟩ := q1
  subst e
  cases r1 with
  | cons r rr =>
    cases rr
    obtain ⟨t, rfl⟩ := r
    exact call_range_1 (range_it I1 (by omega) (by omega) q1 q2 (by simpa using q))
theorem pi_range2 {a b : Expr} {ta : TA} {p pos : Pos} (hg : Gl X "range") (hm : X.mg "range" = none) (ha : PA X [a, b] ta) (hs : starEach [a, b] X.env = [(false, eval a X.env), (false, eval b X.env)] := by rfl) (hs2 : starEach [b] X.env = [(false, eval b X.env)] := by rfl) :
    PI X tg (.Call (.Name "range" p) [a, b] [] pos) (iRng2 ta) := by
  intro pins s σ H R I h
  refine Call_ (ld_blt I hg hm boot_range (PyProof.Rows.callWith_type1 (thn (ha pos pins s σ H _ I h) fun us s1 ⟨vs, H1, I1, r1, q1⟩ => ?_) (by rw [hs, hs2]) (by rw [hs2]; rfl)))
  obtain ⟨i, j, e, ⟨q1, q2, q3, q4⟩, q⟩ := q1
  subst e
  cases r1 with
  | cons r rr =>
    cases rr with
    | cons r' rr =>
      cases rr
      obtain ⟨t, rfl⟩ := r
      obtain ⟨t', rfl⟩ := r'
      exact call_range_2 (range_it I1 q1 q2 q3 q4 q)
noncomputable def tFor (wi : TI) (g : TG) (tb : TS) : TS := fun D σ H => wi σ H fun J H1 => ∃ W : Nat → Nat → St → Hp → Prop, (∃ m, W 0 m σ H1) ∧ ∀ i m σ H, W i m σ H →
  (J.stop i H ∧ D.nx σ H) ∨ (J.go i H ∧ ∃ N : St → Hp → Prop, (∀ σ' H', N σ' H' → ∃ m', m' < m ∧ W (i + 1) m' σ' H') ∧ ∀ x H', J.yld i H x H' → g x σ H' fun σ2 H2 => tb { D with nx := N, ct := N, bk := D.nx } σ2 H2)
noncomputable def pinsAt (fp : List Addr) (h : Heap) : List (Addr × Obj) := fp.filterMap fun b => (h.get? b).map fun o => (b, o)
theorem mem_pinsAt {fp : List Addr} {h : Heap} {b : Addr} {o : Obj} (hb : b ∈ fp) (e : h.get? b = some o) : (b, o) ∈ pinsAt fp h := List.mem_filterMap.mpr ⟨b, hb, by rw [e]; rfl⟩
theorem of_pinsAt {fp : List Addr} {h : Heap} {p : Addr × Obj} (hp : p ∈ pinsAt fp h) : p.1 ∈ fp ∧ h.get? p.1 = some p.2 := by
  obtain ⟨b, hb, e⟩ := List.mem_filterMap.mp hp
  cases q : h.get? b with
  | none => rw [q] at e; cases e
  | some o =>
    rw [q] at e
    have e' : (b, o) = p := Option.some.inj e
    subst e'
    exact ⟨hb, q⟩
theorem Inv.pinned {pins : List (Addr × Obj)} {σ : St} {H : Hp} {s : Shared} {fp : List Addr} (I : Inv X pins σ H s) (hf : ∀ b ∈ fp, FpOk X pins H b) (ho : ∀ b ∈ fp, ∃ o, s.heap.get? b = some o ∧ ∀ v, o.data ≠ .cell v) : Inv X (pins ++ pinsAt fp s.heap) σ H s :=
  I.pins_of fun p hp => (List.mem_append.mp hp).elim (fun z => I.pin p (List.mem_append_right _ z)) fun z => by
    obtain ⟨hb, e⟩ := of_pinsAt z
    obtain ⟨f0, f1, f2, _⟩ := hf p.1 hb
    obtain ⟨o, e', d⟩ := ho p.1 hb
    rw [e] at e'; cases e'
    exact ⟨e, f0, f1, f2, d⟩
theorem Inv.unpinned {pins pl : List (Addr × Obj)} {σ : St} {H : Hp} {s : Shared} (I : Inv X (pins ++ pl) σ H s) : Inv X pins σ H s := I.pins_of fun p hp => I.pin p (List.mem_append_right _ (List.mem_append_left _ hp))
theorem ps_for {iter : Expr} {body : List Stmt} {wi : TI} {g : TG} {tb : TS} {pos : Pos} (hp : PassesOwn (model X.prog X.w) X.A X.env X.xe) (hc : X.calm = true) (hi : PI X tg iter wi) (hg : PG X tg g) (hb : PSs X body tb)
    (hs : ∀ x, foldedSetIterable iter X.env x = pure x := by intro _; rfl) : PS X (.For tg iter body [] pos) (tFor wi g tb) := by
  intro pins s σ H D I h
  refine wpAny_For (thn (hi pins s σ H _ I h) fun v s1 h1 => thn h1 fun itv s2 h2 => ?_) hs
  obtain ⟨it, fp, tn, J, H2, e, I2, T, st2, f2, W, ⟨m0, w0⟩, turn⟩ := h2
  subst e
  -- what stays true of the iterator's objects through the loop
  have stat : ∀ {H' : Hp}, (∀ b ∈ fp, H' b = none) → ∀ b ∈ fp, FpOk X pins H' b := fun hn b hb => ⟨hn b hb, (f2 b hb).2⟩
  refine codeAny_forLoop_any (fun n s' => ∃ i σ' H', Inv X pins σ' H' s' ∧ tn i s'.heap ∧ (∀ b ∈ fp, H' b = none) ∧ W i n σ' H') ?_ m0 ⟨0, σ, H2, I2, st2, fun b hb => (f2 b hb).1, w0⟩
  rintro n s3 ⟨i, σ3, H3, I3, st3, fr3, w3⟩
  rcases turn i n σ3 H3 w3 with ⟨stop, qn⟩ | ⟨go, N, hN, step⟩
  · refine wpAny_passesOwn hp (thn (T.done X rfl rfl rfl hc i pins s3 σ3 H3 X.xe I3 (stat fr3) st3 stop) fun r s4 ⟨hr, I4⟩ => ?_)
    subst hr
    exact wpAny_execs_nil ⟨σ3, H3, I4, qn⟩
  · refine wpAny_passesOwn hp (thn (T.item X rfl rfl rfl hc i pins s3 σ3 H3 X.xe I3 (stat fr3) st3 go) fun r s4 ⟨u, hr, h4⟩ => ?_)
    subst hr
    refine wpAny_passesOwn hp (thn h4 fun _ s5 ⟨x, H5, I5, r5, y5, st5, fr5⟩ => ?_)
    have I5' := I5.pinned (stat fr5) (T.obj _ _ st5)
    refine wpAny_passesOwn hp (thn (hg _ s5 σ3 H5 x u _ I5' r5 (step x H5 y5)) fun _ s6 ⟨σ6, H6, I6, q6⟩ => ?_)
    refine wpAny_passesOwn hp (thn (hb _ s6 σ6 H6 _ I6 q6) fun f s7 q7 => ?_)
    have again : ∀ {σ7 : St} {H7 : Hp}, Inv X (pins ++ pinsAt fp s5.heap) σ7 H7 s7 → N σ7 H7 → ∃ m, m < n ∧ ∃ i σ' H', Inv X pins σ' H' s7 ∧ tn i s7.heap ∧ (∀ b ∈ fp, H' b = none) ∧ W i m σ' H' := fun {σ7 H7} I7 n7 => by
      obtain ⟨m', hm, w7⟩ := hN σ7 H7 n7
      refine ⟨m', hm, i + 1, σ7, H7, I7.unpinned, T.keep _ _ _ st5 fun b hb o e => (I7.pin (b, o) (List.mem_append_right _ (List.mem_append_right _ (mem_pinsAt hb e)))).1, fun b hb => ?_, w7⟩
      obtain ⟨o, e, d⟩ := T.obj _ _ st5 b hb
      exact (I7.pin (b, o) (List.mem_append_right _ (List.mem_append_right _ (mem_pinsAt hb e)))).2.1
    cases f with
    | next => obtain ⟨σ7, H7, I7, n7⟩ := q7; exact again I7 n7
    | cont => obtain ⟨σ7, H7, I7, n7⟩ := q7; exact again I7 n7
    | brk => obtain ⟨σ7, H7, I7, q7⟩ := q7; exact ⟨σ7, H7, I7.unpinned, q7⟩
    | ret v => obtain ⟨x7, σ7, H7, I7, r7, q7⟩ := q7; exact ⟨x7, σ7, H7, I7.unpinned, r7, q7⟩
end
theorem for_list {K : PySem.W.Frag} {a : Addr} {xs : List V} {g : TG} {tb : TS} {D : Ends} {σ : St} {H : Hp} (Pv : Nat → St → Hp → Prop) (h0 : Pv 0 σ H) (hl : ∀ i σ H, i ≤ xs.length → Pv i σ H → SqL K H a xs)
    (hs : ∀ i x σ H, xs[i]? = some x → Pv i σ H → g x σ H fun σ2 H2 => tb { D with nx := Pv (i + 1), ct := Pv (i + 1), bk := D.nx } σ2 H2) (hd : ∀ σ H, Pv xs.length σ H → D.nx σ H) :
    ∃ W : Nat → Nat → St → Hp → Prop, (∃ m, W 0 m σ H) ∧ ∀ i m σ H, W i m σ H →
      ((Itl K a).stop i H ∧ D.nx σ H) ∨ ((Itl K a).go i H ∧ ∃ N : St → Hp → Prop, (∀ σ' H', N σ' H' → ∃ m', m' < m ∧ W (i + 1) m' σ' H') ∧ ∀ x H', (Itl K a).yld i H x H' → g x σ H' fun σ2 H2 => tb { D with nx := N, ct := N, bk := D.nx } σ2 H2) := by
  refine ⟨fun i m σ H => m = xs.length - i ∧ i ≤ xs.length ∧ Pv i σ H, ⟨xs.length, by simp, Nat.zero_le _, h0⟩, ?_⟩
  rintro i m σ H ⟨rfl, hi, p⟩
  have q := hl i σ H hi p
  by_cases hlt : i < xs.length
  · refine .inr ⟨⟨xs, xs[i], q, by simp [hlt]⟩, Pv (i + 1), fun σ' H' p' => ⟨xs.length - (i + 1), by omega, rfl, hlt, p'⟩, fun x H' y => ?_⟩
    obtain ⟨e, y⟩ := y
    subst e
    exact hs i x σ _ (y xs q) p
  · have e : i = xs.length := by omega
    subst e
    exact .inl ⟨⟨xs, q, Nat.le_refl _⟩, hd σ H p⟩
theorem for_range {lo : Int} {n : Nat} {g : TG} {tb : TS} {D : Ends} {σ : St} {H : Hp} (Pv : Nat → St → Hp → Prop) (h0 : Pv 0 σ H)
    (hs : ∀ i σ H, i < n → Pv i σ H → g (.int (lo + i)) σ H fun σ2 H2 => tb { D with nx := Pv (i + 1), ct := Pv (i + 1), bk := D.nx } σ2 H2) (hd : ∀ σ H, Pv n σ H → D.nx σ H) :
    ∃ W : Nat → Nat → St → Hp → Prop, (∃ m, W 0 m σ H) ∧ ∀ i m σ H, W i m σ H →
      ((Itr lo n).stop i H ∧ D.nx σ H) ∨ ((Itr lo n).go i H ∧ ∃ N : St → Hp → Prop, (∀ σ' H', N σ' H' → ∃ m', m' < m ∧ W (i + 1) m' σ' H') ∧ ∀ x H', (Itr lo n).yld i H x H' → g x σ H' fun σ2 H2 => tb { D with nx := N, ct := N, bk := D.nx } σ2 H2) := by
  refine ⟨fun i m σ H => m = n - i ∧ i ≤ n ∧ Pv i σ H, ⟨n, by simp, Nat.zero_le _, h0⟩, ?_⟩
  rintro i m σ H ⟨rfl, hi, p⟩
  by_cases hlt : i < n
  · refine .inr ⟨hlt, Pv (i + 1), fun σ' H' p' => ⟨n - (i + 1), by omega, rfl, hlt, p'⟩, fun x H' y => ?_⟩
    obtain ⟨e, y⟩ := y
    subst e y
    exact hs i σ _ hlt p
  · have e : i = n := by omega
    subst e
    exact .inl ⟨Nat.le_refl _, hd σ H p⟩
end L2
namespace L2
open PySem PySem.Spec PyProof.Rows
noncomputable abbrev R2 := V → V → Hp → VK → Prop
noncomputable def OpR (X : Cx) (f : Value → Value → Sem Value) (r : R2) : Prop :=
  ∀ (pins : List (Addr × Obj)) (s : Shared) (σ : St) (H : Hp) (x y : V) (v u : Value) (Q : VK), Inv X pins σ H s → RelV x v → RelV y u → r x y H Q →
    wpAny (model X.prog X.w) X.A (f v u) (EP X pins σ Q) X.xe s
noncomputable def UnR (X : Cx) (f : Value → Sem Value) (r : V → Hp → VK → Prop) : Prop :=
  ∀ (pins : List (Addr × Obj)) (s : Shared) (σ : St) (H : Hp) (x : V) (v : Value) (Q : VK), Inv X pins σ H s → RelV x v → r x H Q →
    wpAny (model X.prog X.w) X.A (f v) (EP X pins σ Q) X.xe s
noncomputable def CallR (X : Cx) (f : Value) (r : List V → Hp → VK → Prop) : Prop :=
  ∀ (pins : List (Addr × Obj)) (s : Shared) (σ : St) (H : Hp) (xs : List V) (us : List Value) (Q : VK), Inv X pins σ H s → Vals xs us → r xs H Q →
    wpAny (model X.prog X.w) X.A (call f us) (EP X pins σ Q) X.xe s
noncomputable def tOp (r : R2) (ta tb : TE) : TE := fun σ H Q => ta σ H fun x H1 => tb σ H1 fun y H2 => r x y H2 Q
noncomputable def tUn (r : V → Hp → VK → Prop) (ta : TE) : TE := fun σ H Q => ta σ H fun x H1 => r x H1 Q
noncomputable def rI (C : Int → Int → Prop) (g : Int → Int → V) : R2 := fun x y H Q => ∃ i j, x = .int i ∧ y = .int j ∧ C i j ∧ Q (g i j) H
noncomputable def rI0 (g : Int → Int → V) : R2 := fun x y H Q => ∃ i j, x = .int i ∧ y = .int j ∧ Q (g i j) H
noncomputable def rU (g : Int → V) : V → Hp → VK → Prop := fun x H Q => ∃ i, x = .int i ∧ Q (g i) H
section
variable {X : Cx} {a b c : Expr} {ta tb tc : TE} {pos : Pos}
theorem binT (ha : PE X a ta) (hb : PE X b tb) {pins : List (Addr × Obj)} {s : Shared} {σ : St} {H : Hp} {R : V → V → Hp → Prop} (I : Inv X pins σ H s)
    (h : ta σ H fun x H1 => tb σ H1 fun y H2 => R x y H2) {Q : Value → Shared → Prop} {f : Value → Value → Sem Value}
    (hf : ∀ v u s2 x y H2, Inv X pins σ H2 s2 → RelV x v → RelV y u → R x y H2 → wpAny (model X.prog X.w) X.A (f v u) Q X.xe s2) :
    wpAny (model X.prog X.w) X.A (eval a X.env) (fun v s₁ => wpAny (model X.prog X.w) X.A (eval b X.env) (fun u s₂ => wpAny (model X.prog X.w) X.A (f v u) Q X.xe s₂) X.xe s₁) X.xe s := by
  refine thn (ha pins s σ H _ I h) fun v s1 ⟨x, H1, I1, r1, q1⟩ => ?_
  refine thn (hb pins s1 σ H1 _ I1 q1) fun u s2 ⟨y, H2, I2, r2, q2⟩ => ?_
  exact hf v u s2 x y H2 I2 r1 r2 q2
theorem pe_op {op : Operator} {r : R2} (ho : OpR X (binaryOp op) r) (ha : PE X a ta) (hb : PE X b tb) : PE X (.BinOp a op b pos) (tOp r ta tb) := by
  intro pins s σ H Q I h
  exact wpAny_BinOp (binT ha hb I h fun v u s2 x y H2 I2 rx ry q => ho pins s2 σ H2 x y v u Q I2 rx ry q)
theorem pe_un {op : UnaryOp} {r : V → Hp → VK → Prop} (ho : UnR X (unaryOp op) r) (ha : PE X a ta) : PE X (.UnaryOp op a pos) (tUn r ta) := by
  intro pins s σ H Q I h
  exact UnaryOp_ (thn (ha pins s σ H _ I h) fun v s1 ⟨x, H1, I1, r1, q1⟩ => ho pins s1 σ H1 x v Q I1 r1 q1)
theorem opI {f : Value → Value → Sem Value} {C : Int → Int → Prop} {g : Int → Int → Int}
    (rule : ∀ (i j : Int) (t u : Tok) (s : Shared) (Q : Value → Shared → Prop) (E : Value → Shared → Prop), C i j → Q (.int (g i j) s.toks) { s with toks := s.toks + 1 } → wpAny (model X.prog X.w) X.A (f (.int i t) (.int j u)) Q E s) :
    OpR X f (rI C fun i j => .int (g i j)) := by
  intro pins s σ H x y v u Q I rx ry h
  obtain ⟨i, j, rfl, rfl, hc, q⟩ := h
  obtain ⟨t, rfl⟩ := rx
  obtain ⟨t', rfl⟩ := ry
  exact rule i j t t' s _ _ hc ⟨.int (g i j), H, I.tok _, ⟨_, rfl⟩, q⟩
theorem opI0 {f : Value → Value → Sem Value} {g : Int → Int → Int}
    (rule : ∀ (i j : Int) (t u : Tok) (s : Shared) (Q : Value → Shared → Prop) (E : Value → Shared → Prop), Q (.int (g i j) s.toks) { s with toks := s.toks + 1 } → wpAny (model X.prog X.w) X.A (f (.int i t) (.int j u)) Q E s) :
    OpR X f (rI0 fun i j => .int (g i j)) := by
  intro pins s σ H x y v u Q I rx ry h
  obtain ⟨i, j, rfl, rfl, q⟩ := h
  obtain ⟨t, rfl⟩ := rx
  obtain ⟨t', rfl⟩ := ry
  exact rule i j t t' s _ _ ⟨.int (g i j), H, I.tok _, ⟨_, rfl⟩, q⟩
theorem opB0 {f : Value → Value → Sem Value} {g : Int → Int → Bool}
    (rule : ∀ (i j : Int) (t u : Tok) (s : Shared) (Q : Value → Shared → Prop) (E : Value → Shared → Prop), Q (.bool (g i j)) s → wpAny (model X.prog X.w) X.A (f (.int i t) (.int j u)) Q E s) :
    OpR X f (rI0 fun i j => .bl (g i j)) := by
  intro pins s σ H x y v u Q I rx ry h
  obtain ⟨i, j, rfl, rfl, q⟩ := h
  obtain ⟨t, rfl⟩ := rx
  obtain ⟨t', rfl⟩ := ry
  exact rule i j t t' s _ _ ⟨.bl (g i j), H, I, rfl, q⟩
noncomputable def CPow (i j : Int) : Prop := 0 ≤ j ∧ j ≤ 1000000 ∧ i.natAbs < 2 ^ 64
noncomputable def CMul (i j : Int) : Prop := (-(2 ^ 64) < i ∧ i < 2 ^ 64) ∨ (-(2 ^ 64) < j ∧ j < 2 ^ 64)
theorem CMul.ok {i j : Int} (h : CMul i j) : IntMulOk i j := by
  rcases h with ⟨h1, h2⟩ | ⟨h1, h2⟩
  · exact .of_left (intBits_le_64 h1 h2)
  · exact .of_right (intBits_le_64 h1 h2)
theorem op_add : OpR X (binaryOp .Add) (rI0 fun i j => .int (i + j)) := opI0 fun _ _ _ _ _ _ _ q => add_int q
theorem op_sub : OpR X (binaryOp .Sub) (rI0 fun i j => .int (i - j)) := opI0 fun _ _ _ _ _ _ _ q => sub_int q
theorem op_mul : OpR X (binaryOp .Mult) (rI CMul fun i j => .int (i * j)) := opI fun _ _ _ _ _ _ _ hc q => mul_int q hc.ok
theorem op_mod : OpR X (binaryOp .Mod) (rI (fun _ j => 0 < j) fun i j => .int (i % j)) := opI fun i j _ _ _ _ _ hc q => by
  have h1 : (0 : Int) < j := hc
  exact mod_int' (by omega) (by rw [Int.fmod_eq_emod_of_nonneg i (by omega)]; exact q)
theorem op_pow : OpR X (binaryOp .Pow) (rI CPow fun i j => .int (i ^ j.toNat)) := opI fun _ _ _ _ _ _ _ hc q => pow_int_small hc.1 hc.2.1 hc.2.2 q
theorem unI {f : Value → Sem Value} {g : Int → Int}
    (rule : ∀ (i : Int) (t : Tok) (s : Shared) (Q : Value → Shared → Prop) (E : Value → Shared → Prop), Q (.int (g i) s.toks) { s with toks := s.toks + 1 } → wpAny (model X.prog X.w) X.A (f (.int i t)) Q E s) :
    UnR X f (rU fun i => .int (g i)) := by
  intro pins s σ H x v Q I rx h
  obtain ⟨i, rfl, q⟩ := h
  obtain ⟨t, rfl⟩ := rx
  exact rule i t s _ _ ⟨.int (g i), H, I.tok _, ⟨_, rfl⟩, q⟩
theorem un_neg : UnR X (unaryOp .USub) (rU fun i => .int (-i)) := unI fun _ _ _ _ _ q => neg_int q
end
noncomputable def scal : V → V → Bool
  | .non, .non => true | .non, .int _ => true | .int _, .non => true | .non, .bl _ => true | .bl _, .non => true | .non, .str _ => true | .str _, .non => true
  | .int _, .int _ => true | .bl _, .bl _ => true | .str _, .str _ => true | .byt _, .byt _ => true
  | .int _, .str _ => true | .str _, .int _ => true | .bl _, .str _ => true | .str _, .bl _ => true
  | _, _ => false
noncomputable def rEq : R2 := fun x y H Q => scal x y = true ∧ Q (.bl (decide (x = y))) H
noncomputable def rNe : R2 := fun x y H Q => scal x y = true ∧ Q (.bl (!decide (x = y))) H
theorem dec_int {i j : Int} : decide (V.int i = V.int j) = (i == j) := by
  rw [Bool.eq_iff_iff]
  simp
theorem dec_bl {i j : Bool} : decide (V.bl i = V.bl j) = (i == j) := by
  rw [Bool.eq_iff_iff]
  simp
theorem dec_str {i j : Str} : decide (V.str i = V.str j) = (i == j) := by
  rw [Bool.eq_iff_iff]
  simp
theorem dec_byt {i j : Array UInt8} : decide (V.byt i = V.byt j) = (i.toList == j.toList) := by
  rw [Bool.eq_iff_iff]
  cases i
  cases j
  simp
section
variable {X : Cx} {a b c : Expr} {ta tb tc : TE} {pos : Pos}
theorem fin_bl {pins : List (Addr × Obj)} {σ : St} {H : Hp} {s : Shared} {Q : VK} {k k' : Bool} (I : Inv X pins σ H s) (q : Q (.bl k) H) (e : k = k') : EP X pins σ Q (.bool k') s := by
  subst e
  exact ⟨.bl k, H, I, rfl, q⟩
theorem op_eq : OpR X (compareOp .Eq) rEq := by
  intro pins s σ H x y v u Q I rx ry h
  obtain ⟨hs, q⟩ := h
  cases x with
  | non =>
    cases rx
    cases y with
    | non => cases ry; exact PySem.EqNone.eq_none_none (fin_bl I q (by simp))
    | bl j => cases ry; exact PySem.EqNone.eq_none_bool (fin_bl I q (by simp))
    | int j => obtain ⟨t', rfl⟩ := ry; exact PySem.EqNone.eq_none_int (fin_bl I q (by simp))
    | str j => obtain ⟨t', rfl⟩ := ry; exact PySem.EqNone.eq_none_str (fin_bl I q (by simp))
    | _ => exact absurd (show false = true from hs) Bool.false_ne_true
  | bl i =>
    cases rx
    cases y with
    | non => cases ry; exact PySem.EqNone.eq_bool_none (fin_bl I q (by simp))
    | bl j => cases ry; exact eq_bool (fin_bl I q dec_bl)
    | str j => obtain ⟨t', rfl⟩ := ry; exact PySem.EqMixed.eq_bool_str (fin_bl I q (by simp))
    | _ => exact absurd (show false = true from hs) Bool.false_ne_true
  | int i =>
    obtain ⟨t, rfl⟩ := rx
    cases y with
    | non => cases ry; exact PySem.EqNone.eq_int_none (fin_bl I q (by simp))
    | int j => obtain ⟨t', rfl⟩ := ry; exact eq_int (fin_bl I q dec_int)
    | str j => obtain ⟨t', rfl⟩ := ry; exact PySem.EqMixed.eq_int_str (fin_bl I q (by simp))
    | _ => exact absurd (show false = true from hs) Bool.false_ne_true
  | str i =>
    obtain ⟨t, rfl⟩ := rx
    cases y with
    | non => cases ry; exact PySem.EqNone.eq_str_none (fin_bl I q (by simp))
    | bl j => cases ry; exact PySem.EqMixed.eq_str_bool (fin_bl I q (by simp))
    | int j => obtain ⟨t', rfl⟩ := ry; exact PySem.EqMixed.eq_str_int (fin_bl I q (by simp))
    | str j => obtain ⟨t', rfl⟩ := ry; exact eq_str (fin_bl I q dec_str)
    | _ => exact absurd (show false = true from hs) Bool.false_ne_true
  | byt i =>
    obtain ⟨t, rfl⟩ := rx
    cases y with
    | byt j => obtain ⟨t', rfl⟩ := ry; exact PySem.W.eq_bytes (fin_bl I q dec_byt)
    | _ => exact absurd (show false = true from hs) Bool.false_ne_true
  | _ => cases y <;> exact absurd (show false = true from hs) Bool.false_ne_true
theorem op_ne : OpR X (compareOp .NotEq) rNe := by
  intro pins s σ H x y v u Q I rx ry h
  obtain ⟨hs, q⟩ := h
  cases x with
  | non =>
    cases rx
    cases y with
    | non => cases ry; exact PySem.EqNone.ne_none_none (fin_bl I q (by simp))
    | bl j => cases ry; exact PySem.EqNone.ne_none_bool (fin_bl I q (by simp))
    | int j => obtain ⟨t', rfl⟩ := ry; exact PySem.EqNone.ne_none_int (fin_bl I q (by simp))
    | str j => obtain ⟨t', rfl⟩ := ry; exact PySem.EqNone.ne_none_str (fin_bl I q (by simp))
    | _ => exact absurd (show false = true from hs) Bool.false_ne_true
  | bl i =>
    cases rx
    cases y with
    | non => cases ry; exact PySem.EqNone.ne_bool_none (fin_bl I q (by simp))
    | bl j => cases ry; exact ne_bool (fin_bl I q (congrArg not dec_bl))
    | str j => obtain ⟨t', rfl⟩ := ry; exact PySem.EqMixed.ne_bool_str (fin_bl I q (by simp))
    | _ => exact absurd (show false = true from hs) Bool.false_ne_true
  | int i =>
    obtain ⟨t, rfl⟩ := rx
    cases y with
    | non => cases ry; exact PySem.EqNone.ne_int_none (fin_bl I q (by simp))
    | int j => obtain ⟨t', rfl⟩ := ry; exact ne_int (fin_bl I q (congrArg not dec_int))
    | str j => obtain ⟨t', rfl⟩ := ry; exact PySem.EqMixed.ne_int_str (fin_bl I q (by simp))
    | _ => exact absurd (show false = true from hs) Bool.false_ne_true
  | str i =>
    obtain ⟨t, rfl⟩ := rx
    cases y with
    | non => cases ry; exact PySem.EqNone.ne_str_none (fin_bl I q (by simp))
    | bl j => cases ry; exact PySem.EqMixed.ne_str_bool (fin_bl I q (by simp))
    | int j => obtain ⟨t', rfl⟩ := ry; exact PySem.EqMixed.ne_str_int (fin_bl I q (by simp))
    | str j => obtain ⟨t', rfl⟩ := ry; exact ne_str (fin_bl I q (congrArg not dec_str))
    | _ => exact absurd (show false = true from hs) Bool.false_ne_true
  | byt i =>
    obtain ⟨t, rfl⟩ := rx
    cases y with
    | byt j => obtain ⟨t', rfl⟩ := ry; exact PySem.W.ne_bytes (fin_bl I q (congrArg not dec_byt))
    | _ => exact absurd (show false = true from hs) Bool.false_ne_true
  | _ => cases y <;> exact absurd (show false = true from hs) Bool.false_ne_true
theorem op_lt : OpR X (compareOp .Lt) (rI0 fun i j => .bl (decide (i < j))) := opB0 fun _ _ _ _ _ _ _ q => lt_int q
theorem op_le : OpR X (compareOp .LtE) (rI0 fun i j => .bl (decide (i ≤ j))) := opB0 fun _ _ _ _ _ _ _ q => le_int q
theorem op_gt : OpR X (compareOp .Gt) (rI0 fun i j => .bl (decide (j < i))) := opB0 fun _ _ _ _ _ _ _ q => gt_int q
theorem op_ge : OpR X (compareOp .GtE) (rI0 fun i j => .bl (decide (j ≤ i))) := opB0 fun _ _ _ _ _ _ _ q => ge_int q
theorem op_isN : OpR X (compareOp .Is) (fun x y H Q => y = .non ∧ Q (.bl (decide (x = .non))) H) := by
  intro pins s σ H x y v u Q I rx ry h
  obtain ⟨rfl, q⟩ := h
  cases ry
  refine is_none_gen (fin_bl I q ?_)
  cases x <;> first
    | (cases rx; rfl)
    | (obtain ⟨t, rfl⟩ := rx; rfl)
theorem nomark (b : Expr) {op : CmpOp} (h : op ≠ .In := by decide) (h2 : op ≠ .NotIn := by decide) : behindInMarks op b = false := by
  have e1 : (op == CmpOp.In) = false := by cases op <;> first | rfl | exact absurd rfl h
  have e2 : (op == CmpOp.NotIn) = false := by cases op <;> first | rfl | exact absurd rfl h2
  cases b <;> simp [behindInMarks, e1, e2]
theorem pe_cmpR {op : CmpOp} {r : R2} (ho : OpR X (compareOp op) r) (ha : PE X a ta) (hb : PE X b tb) (hm : behindInMarks op b = false) : PE X (.Compare a [op] [b] pos) (tOp r ta tb) := by
  intro pins s σ H Q I h
  exact wpAny_Compare1 (binT ha hb I h fun v u s2 x y H2 I2 rx ry q => ho pins s2 σ H2 x y v u Q I2 rx ry q) hm
noncomputable def tTest (t : TE) : TT := fun σ H Q => t σ H fun x H' => ∃ k, x = .bl k ∧ Q k H'
theorem pt_cmpR {op : CmpOp} {r : R2} (ho : OpR X (compareOp op) r) (ha : PE X a ta) (hb : PE X b tb) (hm : behindInMarks op b = false) : PT X (.Compare a [op] [b] pos) (tTest (tOp r ta tb)) := by
  intro pins s σ H Q I h
  refine wpAny_isTrue_Compare1 (thn (ha pins s σ H _ I h) fun v s1 ⟨x, H1, I1, r1, q1⟩ => thn (hb pins s1 σ H1 _ I1 q1) fun u s2 ⟨y, H2, I2, r2, q2⟩ =>
    thn (ho pins s2 σ H2 x y v u _ I2 r1 r2 q2) fun c s3 ⟨z, H3, I3, r3, k, e, q3⟩ => ?_) hm
  subst e
  cases r3
  exact wpAny_truthy_bool ⟨H3, I3, q3⟩
theorem line63 : (sizeLine : Nat) < 2 ^ 63 := by rw [sizeLine_eq]; decide
theorem vals1 {x : V} {us : List Value} (r : Vals [x] us) : ∃ u, us = [u] ∧ RelV x u := by
  cases r with
  | cons r1 r2 => cases r2; exact ⟨_, rfl, r1⟩
theorem vals2 {x y : V} {us : List Value} (r : Vals [x, y] us) : ∃ u w', us = [u, w'] ∧ RelV x u ∧ RelV y w' := by
  cases r with
  | cons r1 r2 =>
    cases r2 with
    | cons r3 r4 => cases r4; exact ⟨_, _, rfl, r1, r3⟩
theorem call_min2 (hc : X.calm = true) : CallR X (.builtin "min") (fun xs H Q => ∃ i j, xs = [.int i, .int j] ∧ Q (.int (if j < i then j else i)) H) := by
  intro pins s σ H xs us Q I r h
  obtain ⟨i, j, rfl, q⟩ := h
  obtain ⟨u, w', rfl, ⟨t, rfl⟩, ⟨t', rfl⟩⟩ := vals2 r
  refine min_two_ints (I.ok.hd hc) fun h' tk k => ⟨_, H, I.kept k, ?_, q⟩
  by_cases hj : j < i
  · rw [if_pos hj, if_pos hj]; exact ⟨_, rfl⟩
  · rw [if_neg hj, if_neg hj]; exact ⟨_, rfl⟩
end
end L2
namespace L2
open PySem PySem.Spec PyProof.Rows
structure ObjM (h : Heap) (x dx C : Addr) (mA : Str → Option Value) : Prop where
  obj : h.get? x = some (PySem.W.instObj C dx)
  ns : h.Ns1 dx mA
  ne : dx ≠ x
theorem lookIn_ns {h : Heap} {dx : Addr} {mA : Str → Option Value} (n : h.Ns1 dx mA) : ∃ od, h.get? dx = some od ∧ ∀ name, PySem.W.lookIn name od = some (mA name) := by
  obtain ⟨o, es, ep, ho, hd, hk, _, hm⟩ := n
  refine ⟨o, ho, fun name => ?_⟩
  have e := hm name
  unfold nsFind findBy at e
  rw [← Array.find?_toList] at e
  unfold PySem.W.lookIn
  rw [hd]
  dsimp only
  split
  · rename_i y q
    rw [q] at e
    exact congrArg some e
  · rename_i q
    rw [q] at e
    have a : es.toList.any (·.refKey) = false := by
      rw [List.any_eq_false]
      intro y hy
      obtain ⟨z, t, hkey⟩ := hk y (Array.mem_toList_iff.mp hy)
      simp [DictEntry.refKey, hkey]
    have a' : ¬ es.toList.any (·.refKey) = true := by rw [a]; exact Bool.false_ne_true
    rw [if_neg a']
    exact congrArg some e
theorem ObjM.look {h : Heap} {x dx C : Addr} {mA : Str → Option Value} (I : ObjM h x dx C mA) : ∃ od, PySem.W.InstAt h x (PySem.W.instObj C dx) C (some od) ∧ ∀ name, PySem.W.lookIn name od = some (mA name) :=
  let ⟨od, ho, hl⟩ := lookIn_ns I.ns
  ⟨od, ⟨I.obj, rfl, rfl, ho⟩, hl⟩
section
variable {prog : Program} {w : World} {A : Around} {E : Value → Shared → Prop} {s : Shared} {K : PySem.W.Frag} {x dx C f : Addr} {mA : Str → Option Value} {name : Str} {v : Value}
theorem get_meth {pl : Sem Bool} {Q : Value × List Value → Shared → Prop} (X : K.In s.heap) (I : ObjM s.heap x dx C mA) (hg : PySem.W.plainGet K C name = true)
    (hf : PySem.W.findIn K (.ref C) name = some (some (.ref f))) (ht : PySem.W.isFn K (.ref f) = true) (hv : mA name = none) (h : Q (.ref f, [.ref x]) s) :
    wpAny (model prog w) A (getMethod (.ref x) name pl) Q E s := by
  obtain ⟨od, J, hl⟩ := I.look
  exact PySem.W.method_fn X J (PySem.W.plainGet_of hg).1 (PySem.W.plainGet_of hg).2 hf (beq_iff_eq.mp ht) (by show (PySem.W.lookIn name od).map (·.isSome) = some false; rw [hl, hv]; rfl) h
theorem set_map {ns : List Str} {Q : Unit → Shared → Prop} (X : K.In s.heap) (I : ObjM s.heap x dx C mA)
    (hs : PySem.W.findIn K (.ref C) "__setattr__" = some (some (.builtin "object.__setattr__"))) (hp : PySem.W.plainOver K C = true) (ht : PySem.W.takerIn K C name = some none) (hh : PySem.W.hasDictIn K C = true)
    (hw : PySem.Within mA ns) (hsz : ns.length ≤ sizeLine)
    (h : ∀ h', ObjM h' x dx C (fun y => if y = name then some v else mA y) → Heap.SameBut dx s.heap h' → Q () { s with heap := h', toks := s.toks + 2 }) :
    wpAny (model prog w) A (setAttr (.ref x) name v) Q E s := by
  obtain ⟨od, J, hl⟩ := I.look
  refine PySem.W.set_plain X J hs (PySem.W.osa_open (s := { s with toks := s.toks + 1 }) (r := none) X J hp ht fun b => ?_)
  obtain ⟨cd, hc, hd'⟩ := PySem.W.any_some hh
  have hx : s.heap.get? x = some ⟨.ref C, some dx, .plain, #[]⟩ := I.obj
  refine wpAny_bind (wpAny_pure (wpAny_bind (wpAny_bind (wpAny_loadPart hx (wpAny_bind (PySem.W.Looks.here (s := { s with toks := s.toks + 1 }) (PySem.W.looks_clsIn X hc) ?_))))))
  rw [hd']
  refine wpAny_pure (a := some dx) (wpAny_bind (wpAny_pure (wpAny_bind ?_)))
  refine wpAny_nsSet1 (s := { s with toks := s.toks + 1 }) I.ns fun h' hn2 hs2 => ?_
  obtain ⟨oD, esD, epD, hoD, hdD, hcD⟩ := hn2.count (PySem.Within.cons name v hw)
  refine wpAny_bind (wpAny_lookBehind hoD (by rw [hdD]; exact pastItsLine_dict (Nat.le_trans hcD (by rw [List.length_cons]; omega))) ?_)
  exact wpAny_pure (h _ ⟨(hs2.2 _ (Ne.symm I.ne)).trans I.obj, hn2, I.ne⟩ hs2)
theorem make_map {R : Result → Shared → Prop} {vs : List Value} {kw : List (Str × Value)} (X : K.In s.heap) (hm : PySem.W.makesIn K C = true)
    (hi : PySem.W.findIn K (.ref C) "__init__" = some (some (.ref f))) (hf : PySem.W.typeIn K (.ref f) = some (.type "function"))
    (h : codeAny (model prog w) (A.under (.builtin "type.__call__" ⟨.ref C :: vs, kw⟩)) (.call (.ref f) ⟨.ref (s.heap.objs.size + 1) :: vs, kw⟩) (PySem.W.InitBack (s.heap.objs.size + 1) R)
      { s with heap := (s.heap.push PySem.W.emptyDict).push (PySem.W.instObj C s.heap.objs.size) }) :
    codeAny (model prog w) A (.call (.ref C) ⟨vs, kw⟩) R s := by
  obtain ⟨hh, g, d, t, os⟩ := s
  exact PySem.W.make_core (PySem.W.makes_of X hm) (PySem.W.looks_findIn X hi) (fun self => PySem.W.bind_fn X self hf) (.inl rfl) h
end
noncomputable def putF (f : Str) (v : V) : List (Str × V) → List (Str × V)
  | [] => [(f, v)]
  | (g, x) :: r => if g = f then (g, v) :: r else (g, x) :: putF f v r
theorem lookup_putF (f g : Str) (v : V) : ∀ fs : List (Str × V), (putF f v fs).lookup g = if g = f then some v else fs.lookup g
  | [] => by
    show List.lookup g [(f, v)] = _
    by_cases h : g = f
    · have hb : (g == f) = true := beq_iff_eq.mpr h
      simp only [List.lookup, hb, if_pos h]
    · have hb : (g == f) = false := beq_eq_false_iff_ne.mpr h
      simp only [List.lookup, hb, if_neg h]
  | (k, x) :: r => by
    have ih := lookup_putF f g v r
    rw [show putF f v ((k, x) :: r) = (if k = f then (k, v) :: r else (k, x) :: putF f v r) from rfl]
    by_cases hk : k = f
    · rw [if_pos hk]
      by_cases h : g = k
      · have hb : (g == k) = true := beq_iff_eq.mpr h
        simp only [List.lookup, hb, if_pos (h.trans hk)]
      · have hb : (g == k) = false := beq_eq_false_iff_ne.mpr h
        simp only [List.lookup, hb, if_neg (fun e : g = f => h (e.trans hk.symm))]
    · rw [if_neg hk]
      by_cases h : g = k
      · have hb : (g == k) = true := beq_iff_eq.mpr h
        simp only [List.lookup, hb, if_neg (fun e : g = f => hk (h.symm.trans e))]
      · have hb : (g == k) = false := beq_eq_false_iff_ne.mpr h
        simp only [List.lookup, hb]
        exact ih
theorem keys_putF (f : Str) (v : V) : ∀ fs : List (Str × V), f ∈ (putF f v fs).map (·.1) ∧ ∀ g, g ∈ fs.map (·.1) → g ∈ (putF f v fs).map (·.1)
  | [] => ⟨by simp [putF], fun g h => by simp at h⟩
  | (k, x) :: r => by
    obtain ⟨i1, i2⟩ := keys_putF f v r
    rw [show putF f v ((k, x) :: r) = (if k = f then (k, v) :: r else (k, x) :: putF f v r) from rfl]
    by_cases hk : k = f
    · rw [if_pos hk]
      subst hk
      exact ⟨by simp, fun g h => by simpa using h⟩
    · rw [if_neg hk]
      refine ⟨?_, fun g h => ?_⟩
      · rw [List.map_cons]
        exact List.mem_cons_of_mem _ i1
      · rw [List.map_cons] at h ⊢
        rcases List.mem_cons.mp h with e | e
        · exact List.mem_cons.mpr (.inl e)
        · exact List.mem_cons_of_mem _ (i2 g e)
theorem length_putF (f : Str) (v : V) : ∀ fs : List (Str × V), (putF f v fs).length ≤ fs.length + 1
  | [] => by simp [putF]
  | (k, x) :: r => by
    have ih := length_putF f v r
    rw [show putF f v ((k, x) :: r) = (if k = f then (k, v) :: r else (k, x) :: putF f v r) from rfl]
    by_cases hk : k = f
    · rw [if_pos hk, List.length_cons, List.length_cons]; omega
    · rw [if_neg hk, List.length_cons, List.length_cons]; omega
theorem RelO.some_of {v : V} {o : Option Value} (r : RelO (some v) o) : ∃ u, o = some u ∧ RelV v u := by
  cases o with
  | none => exact (show False from r).elim
  | some u => exact ⟨u, rfl, r⟩
theorem RelO.none_of {o : Option Value} (r : RelO none o) : o = none := by
  cases o with
  | none => rfl
  | some u => exact (show False from r).elim
section
variable {P : Program} {w : World} {H H' : Hp} {h h' : Heap} {a C dx : Addr} {fs fs' : List (Str × V)}
theorem ins_get (hok : HOk P w H h) (e : H a = some (.ins C dx fs)) : ∃ mA, ObjM h a dx C mA ∧ (∀ f, RelO (fs.lookup f) (mA f)) ∧ PySem.Within mA (fs.map (·.1)) ∧ fs.length ≤ 1000 ∧ H dx = some (.own a) := by
  obtain ⟨d, z, ne, ob, mA, n, r, q⟩ := (show ObjOk P w H h a (.ins C dx fs) from hok a _ e)
  exact ⟨mA, ⟨ob, n, ne⟩, r, q, z, d⟩
end
structure Cls (K : PySem.W.Frag) (C : Addr) : Prop where
  pg : PySem.W.plainGet K C Str.empty = true
  hd : PySem.W.hasDictIn K C = true
  po : PySem.W.plainOver K C = true
  sa : PySem.W.findIn K (.ref C) "__setattr__" = some (some (.builtin "object.__setattr__"))
theorem Cls.get {K : PySem.W.Frag} {C : Addr} (c : Cls K C) (f : Str) : PySem.W.plainGet K C f = true := c.pg
noncomputable def NoAttr (K : PySem.W.Frag) (C : Addr) (f : Str) : Prop := PySem.W.findIn K (.ref C) f = some none
theorem NoAttr.taker {K : PySem.W.Frag} {C : Addr} {f : Str} (n : NoAttr K C f) : PySem.W.takerIn K C f = some none := by
  unfold PySem.W.takerIn
  rw [show PySem.W.findIn K (.ref C) f = some none from n]
  rfl
structure Meth (K : PySem.W.Frag) (C : Addr) (m : Str) (f : Addr) : Prop where
  at_ : PySem.W.findIn K (.ref C) m = some (some (.ref f))
  fn : PySem.W.isFn K (.ref f) = true
  kp : PySem.W.keepIn K (.ref f) = true
section
variable {X : Cx} {pins : List (Addr × Obj)} {σ : St} {H : Hp} {s : Shared} {a C dx : Addr} {fs : List (Str × V)} {f : Str} {v : V} {A : Around} {E : Value → Shared → Prop}
theorem getmeth_ok {m : Str} {g : Addr} {pl : Sem Bool} {Q : Value × List Value → Shared → Prop} (I : Inv X pins σ H s) (e : H a = some (.ins C dx fs)) (c : Cls X.K C) (k : Meth X.K C m g) (l : fs.lookup m = none)
    (h : Q (.ref g, [.ref a]) s) : wpAny (model X.prog X.w) A (getMethod (.ref a) m pl) Q E s := by
  obtain ⟨mA, O, r, _, _, _⟩ := ins_get I.hok e
  have hn : mA m = none := RelO.none_of (by rw [← l]; exact r m)
  exact get_meth I.kIn O (c.get m) k.at_ k.fn hn h
theorem setattr_ok {y : V} {u : Value} {Q : Unit → Shared → Prop} (I : Inv X pins σ H s) (e : H a = some (.ins C dx fs)) (c : Cls X.K C) (n : NoAttr X.K C f) (hl : fs.length < 1000) (ry : RelV y u)
    (h : ∀ s', Inv X pins σ (upd H a (.ins C dx (putF f y fs))) s' → Q () s') : wpAny (model X.prog X.w) A (setAttr (.ref a) f u) Q E s := by
  obtain ⟨mA, O, r, wi, _, ho⟩ := ins_get I.hok e
  have hz : (fs.map (·.1)).length ≤ sizeLine := by rw [List.length_map, sizeLine_eq]; omega
  refine set_map I.kIn O c.sa c.po n.taker c.hd wi hz fun h' O' sb => h _ ?_
  have hd : ∃ o, h'.get? dx = some o := let ⟨o, _, _, e', _⟩ := O'.ns; ⟨o, e'⟩
  refine I.write (x := a) (e := dx) (by rw [e]; exact True.intro) (.inr ho) (fun b q hb z => (sb.2 b hb).trans z) hd ?_
  refine ⟨by rw [upd_ne O.ne]; exact ho, ?_, O.ne, O'.obj, _, O'.ns, fun g => ?_, fun g hg => ?_⟩
  · have := length_putF f y fs; omega
  · show RelO ((putF f y fs).lookup g) (if g = f then some u else mA g)
    rw [lookup_putF]
    by_cases q : g = f
    · rw [if_pos q, if_pos q]; exact ry
    · rw [if_neg q, if_neg q]; exact r g
  · by_cases q : g = f
    · rw [q]; exact (keys_putF f y fs).1
    · refine (keys_putF f y fs).2 g (wi g fun z => hg ?_)
      show (if g = f then some u else mA g) = none
      rw [if_neg q]; exact z
theorem Inv.made (I : Inv X pins σ H s) : Inv X pins σ (upd (upd H s.heap.objs.size (.own (s.heap.objs.size + 1))) (s.heap.objs.size + 1) (.ins C s.heap.objs.size []))
    { s with heap := (s.heap.push PySem.W.emptyDict).push (PySem.W.instObj C s.heap.objs.size) } := by
  have e1 : (s.heap.push PySem.W.emptyDict).get? s.heap.objs.size = some PySem.W.emptyDict := Heap.get?_push_size s.heap rfl
  have e2 : ((s.heap.push PySem.W.emptyDict).push (PySem.W.instObj C s.heap.objs.size)).get? (s.heap.objs.size + 1) = some (PySem.W.instObj C s.heap.objs.size) := by
    have := Heap.get?_push_size (s.heap.push PySem.W.emptyDict) (o := PySem.W.instObj C s.heap.objs.size) rfl
    rwa [Heap.size_push] at this
  have e3 : (s.heap.push PySem.W.emptyDict).Ns s.heap.objs.size (fun _ => none) := ⟨PySem.W.emptyDict, #[], _, e1, rfl, (fun e he => absurd he (by simp)), fun _ => rfl⟩
  have I1 := I.laid (a := s.heap.objs.size) (o := .own (s.heap.objs.size + 1)) (h' := s.heap.push PySem.W.emptyDict) (t' := s.toks) (fun b u q => Heap.get?_push_of_some _ q) (Nat.le_refl _) ⟨_, e1⟩
  refine I1.laid (a := s.heap.objs.size + 1) (o := .ins C s.heap.objs.size []) (t' := s.toks) (fun b u q => Heap.get?_push_of_some _ q) (Nat.le_of_eq (Heap.size_push _ _)) ?_
  have ne : s.heap.objs.size ≠ s.heap.objs.size + 1 := Nat.ne_of_lt (Nat.lt_succ_self _)
  refine ⟨by rw [upd_ne ne, upd_same], Nat.zero_le _, ne, e2, fun _ => none, (Heap.Ns1.of_empty e3).at fun o q => Heap.get?_push_of_some _ q, fun _ => True.intro, fun y hy => absurd rfl hy⟩
end
noncomputable def sFld (K : PySem.W.Frag) (ta tv : TE) (f : Str) : TS := fun D σ H => tv σ H fun y H1 => ta σ H1 fun x H2 => ∃ a C dx fs, x = .ref a ∧ H2 a = some (.ins C dx fs) ∧ Cls K C ∧ NoAttr K C f ∧ fs.length < 1000 ∧
  D.nx σ (upd H2 a (.ins C dx (putF f y fs)))
section
variable {X : Cx} {o e value : Expr} {f : Str} {pos pos' tpos : Pos} {ta tv : TE}
theorem ps_fld (ha : PE X o ta) (hv : PE X value tv) (hs : swapsWith value (some (.Attribute o f pos')) pos.line X.env = pure false) : PS X (.Assign [.Attribute o f pos'] value pos) (sFld X.K ta tv f) := by
  intro pins s σ H D I h
  refine plainObj_wpAny_Assign_Attribute (thn (hv pins s σ H _ I h) fun u s1 ⟨y, H1, I1, ry, q⟩ => thn (ha pins s1 σ H1 _ I1 q) fun ov s2 ⟨x, H2, I2, rx, a, C, dx, fs, ex, ea, c, n, l, q2⟩ => ?_) hs
  subst ex
  obtain rfl : ov = Value.ref a := rx
  exact setattr_ok I2 ea c n l ry fun s3 I3 => ⟨σ, _, I3, q2⟩
theorem methcall_of {pl : Sem Bool} {m : Str} {apos : Pos} {args : List Expr} {pins : List (Addr × Obj)} {s : Shared} {σ : St} {H : Hp} {Q : Value → Shared → Prop} {te : TE} (he : PE X e te) (I : Inv X pins σ H s)
    (h : te σ H fun x H1 => ∃ a C dx fs g, x = .ref a ∧ H1 a = some (.ins C dx fs) ∧ Cls X.K C ∧ Meth X.K C m g ∧ fs.lookup m = none ∧
      ∀ s1, Inv X pins σ H1 s1 → wpAny (model X.prog X.w) X.A (callWith pos (.ref g) [.ref a] (backTo pos (starEach args X.env)) (backToKw pos (keywordEach [] X.env))) Q X.xe s1)
    (ht : eval (.Call (.Attribute e m apos) args [] pos) X.env = (do
      let ov ← eval e X.env
      standAt apos.atName
      let (f, first) ← holding [ov] (getMethod ov m pl)
      callWith pos f first (backTo pos (starEach args X.env)) (backToKw pos (keywordEach [] X.env)))) :
    wpAny (model X.prog X.w) X.A (eval (.Call (.Attribute e m apos) args [] pos) X.env) Q X.xe s := by
  refine PySem.W.methodCall_KW (pl := pl) (thn (he pins s σ H _ I h) fun u s1 ⟨x, H1, I1, rx, a, C, dx, fs, g, ex, ea, c, k, l, q⟩ => ?_) ht
  subst ex
  obtain rfl : u = Value.ref a := rx
  exact getmeth_ok I1 ea c k l (q s1 I1)
end
section
variable {X : Cx} {pins : List (Addr × Obj)} {σ : St} {H : Hp} {s : Shared} {A : Around} {E : Value → Shared → Prop} {Q : Value → Shared → Prop} {c : Value} {b : Bool}
inductive TyOf (K : PySem.W.Frag) (H : Hp) : V → Value → Prop where
  | non : TyOf K H .non (.type "NoneType")
  | bl (x : Bool) : TyOf K H (.bl x) (.type "bool")
  | int (i : Int) : TyOf K H (.int i) (.type "int")
  | str (x : Str) : TyOf K H (.str x) (.type "str")
  | flt (x : UInt64) : TyOf K H (.flt x) (.type "float")
  | lst {a : Addr} {xs : List V} (e : H a = some (.lst xs)) : TyOf K H (.ref a) (.type "list")
  | frz {a : Addr} {o : Obj} {xs : List V} (e : H a = some (.frz o (.lst xs))) : TyOf K H (.ref a) (.type "list")
  | tup {a : Addr} {xs : List V} (e : H a = some (.tup xs)) : TyOf K H (.ref a) (.type "tuple")
  | dK {a : Addr} {kvs : List (Key × V)} (e : H a = some (.dK kvs)) : TyOf K H (.ref a) (.type "dict")
  | dT {a : Addr} {kvs : List (List Key × V)} (e : H a = some (.dT kvs)) : TyOf K H (.ref a) (.type "dict")
  | ins {a C dx : Addr} {fs : List (Str × V)} (e : H a = some (.ins C dx fs)) (cl : Cls K C) (ha : PySem.W.findIn K (.ref C) "__class__" = some (some (.builtin "object.__class__")))
      (hn : PySem.W.specialIn K (.builtin "object.__class__") "__get__" = some (some (.builtin "getset_descriptor.__get__"))) (htk : PySem.W.takesIn K (.builtin "object.__class__") = some true)
      (hm : PySem.W.mroIn K C (.type "object") = some true) : TyOf K H (.ref a) (.ref C)
theorem isinst_ok {x : V} {u t : Value} (I : Inv X pins σ H s) (rx : RelV x u) (ty : TyOf X.K H x t) (e : PySem.W.kitOne X.K t c = some b) (h : ∀ tk, Q (.bool b) { s with toks := tk }) :
    wpAny (model X.prog X.w) A (call (.builtin "isinstance") [u, c]) Q E s := by
  cases ty with
  | non => cases (show u = Value.none from rx); exact PySem.W.kia_one PySem.W.kitx_none I.kIn True.intro e (fun z => nomatch z) h
  | bl y => cases (show u = Value.bool y from rx); exact PySem.W.kia_one PySem.W.kitx_bool I.kIn True.intro e (fun z => nomatch z) h
  | int i => obtain ⟨t, q⟩ := (show ∃ t, u = Value.int i t from rx); cases q; exact PySem.W.kia_one PySem.W.kitx_int I.kIn True.intro e (fun z => nomatch z) h
  | str y => obtain ⟨t, q⟩ := (show ∃ t, u = Value.str y t from rx); cases q; exact PySem.W.kia_one PySem.W.kitx_str I.kIn True.intro e (fun z => nomatch z) h
  | flt y => obtain ⟨t, q⟩ := (show ∃ t, u = Value.float y t from rx); cases q; exact PySem.W.kia_one PySem.W.kitx_float I.kIn True.intro e (fun z => nomatch z) h
  | @lst a xs ea =>
    cases (show u = Value.ref a from rx)
    obtain ⟨_, _, n, _, h1⟩ := (show ObjOk X.prog X.w H s.heap a (.lst xs) from I.hok a _ ea)
    exact PySem.W.kia_one PySem.W.kitx_list I.kIn ⟨_, h1, rfl⟩ e (fun z => nomatch z) h
  | @frz a ob xs ea =>
    cases (show u = Value.ref a from rx)
    obtain ⟨_, _, _, n, _, h1⟩ := (show ObjOk X.prog X.w H s.heap a (.frz ob (.lst xs)) from I.hok a _ ea)
    exact PySem.W.kia_one PySem.W.kitx_list I.kIn ⟨_, h1, rfl⟩ e (fun z => nomatch z) h
  | @tup a xs ea =>
    cases (show u = Value.ref a from rx)
    obtain ⟨_, _, _, p⟩ := (show ObjOk X.prog X.w H s.heap a (.tup xs) from I.hok a _ ea)
    obtain ⟨o, h1, h2, _⟩ := p
    exact PySem.W.kia_one PySem.W.kitx_tuple I.kIn ⟨o, h1, h2⟩ e (fun z => nomatch z) h
  | @dK a kvs ea =>
    cases (show u = Value.ref a from rx)
    obtain ⟨_, _, vs, _, p⟩ := (show ObjOk X.prog X.w H s.heap a (.dK kvs) from I.hok a _ ea)
    obtain ⟨o, es, ep, h1, h2, _⟩ := p
    exact PySem.W.kia_one PySem.W.kitx_dict I.kIn ⟨o, h1, h2.1⟩ e (fun z => nomatch z) h
  | @dT a kvs ea =>
    cases (show u = Value.ref a from rx)
    obtain ⟨_, _, xs, _, o, es, ep, h1, h2, _⟩ := (show ObjOk X.prog X.w H s.heap a (.dT kvs) from I.hok a _ ea)
    exact PySem.W.kia_one PySem.W.kitx_dict I.kIn ⟨o, h1, h2.1⟩ e (fun z => nomatch z) h
  | @ins a C dx fs ea cl ha hn htk hm =>
    cases (show u = Value.ref a from rx)
    obtain ⟨mA, O, _⟩ := ins_get I.hok ea
    obtain ⟨od, J, _⟩ := O.look
    exact PySem.W.kia_one (PySem.W.kitx_own (cl.get _) cl.hd ha hn htk hm) I.kIn J e (fun z => nomatch z) h
end
end L2
namespace L2
open PySem PySem.Spec PyProof.Rows
structure Room (k : Nat) (A : Around) : Prop where
  hd : A.handled = none
  dp : A.depth + 3 * k + 5 < recursionLimit
  un : A.units + 16 * k + 200 < cLine
theorem Room.mono {j k : Nat} {A : Around} (r : Room k A) (h : j ≤ k) : Room j A := ⟨r.hd, by have := r.dp; omega, by have := r.un; omega⟩
theorem Room.deeper {k : Nat} {A : Around} (r : Room (k + 1) A) (env : Env) : Room k (A.deeper env) :=
  ⟨r.hd, by have := r.dp; show A.depth + 1 + 3 * k + 5 < _; omega, by have := r.un; show A.units + 3 + 16 * k + 200 < _; omega⟩
theorem make_depth {A : Around} {C : Addr} {us : List Value} {kw : List (Str × Value)} : (A.under (.builtin "type.__call__" ⟨.ref C :: us, kw⟩)).depth = A.depth + 1 := by
  first | rfl | simp [Around.under, Code.weight, Code.isCreation, Code.isGuard, Code.isCaller, Code.frames, Code.isFrame, guardIds]
theorem make_units {A : Around} {C : Addr} {us : List Value} {kw : List (Str × Value)} : (A.under (.builtin "type.__call__" ⟨.ref C :: us, kw⟩)).units = A.units + 1 := by
  first | rfl | simp [Around.under, Code.cUnits, Code.frames, Code.isFrame]
theorem Room.make {k : Nat} {A : Around} (r : Room (k + 1) A) (C : Addr) (us : List Value) (kw : List (Str × Value)) : Room k (A.under (.builtin "type.__call__" ⟨.ref C :: us, kw⟩)) :=
  ⟨r.hd, by have := r.dp; rw [make_depth]; omega, by have := r.un; rw [make_units]; omega⟩
theorem Room.depth {k : Nat} {A : Around} (r : Room k A) : A.depth < recursionLimit := by have := r.dp; omega
theorem Room.units {k : Nat} {A : Around} (r : Room k A) : A.units + 64 < cLine := by have := r.un; omega
noncomputable def tNil : TA := fun _ H Q => Q [] H
noncomputable def tCons (ta : TE) (tr : TA) : TA := fun σ H Q => ta σ H fun x H1 => tr σ H1 fun xs H2 => Q (x :: xs) H2
section
variable {X : Cx} {e : Expr} {es : List Expr} {te : TE} {t : TA} {pos : Pos}
theorem pa_nil : PA X [] tNil := fun _ _ _ _ H Q I h => Calls.spliced_nil ⟨[], H, I, .nil, h⟩
theorem pa_cons (ha : PE X e te) (hr : PA X es t) (hs : starEach (e :: es) X.env = (false, eval e X.env) :: starEach es X.env := by rfl) : PA X (e :: es) (tCons te t) := by
  intro pos pins s σ H Q I h
  rw [hs]
  show wpAny _ _ (spliced ((false, eval e X.env) :: backTo pos (starEach es X.env))) _ _ s
  refine Calls.spliced_cons (thn (ha pins s σ H _ I h) fun u s1 ⟨x, H1, I1, r1, q1⟩ => ?_)
  exact thn (hr pos pins s1 σ H1 _ I1 q1) fun us s2 ⟨xs, H2, I2, r2, q2⟩ => ⟨x :: xs, H2, I2, .cons r1 r2, q2⟩
noncomputable def tLst (t : TA) : TE := fun σ H Q => t σ H fun xs H1 => xs.length ≤ sizeLine ∧ ∀ p, H1 p = none → Q (.ref p) (upd H1 p (.lst xs))
theorem pe_lst (h : PA X es t) : PE X (.List es pos) (tLst t) := by
  intro pins s σ H Q I hq
  refine wpAny_List_spliced (thn (h pos pins s σ H _ I hq) fun us s1 ⟨xs, H1, I1, r, z, q⟩ => ⟨by rw [← r.length]; exact z, ?_⟩)
  have hf : H1 s1.heap.objs.size = none := I1.hok.fresh (Nat.le_refl _)
  refine ⟨.ref s1.heap.objs.size, upd H1 s1.heap.objs.size (.lst xs), I1.laid (t' := s1.toks) (fun b u e => Heap.get?_push_of_some _ e) (Nat.le_refl _) ?_, rfl, q _ hf⟩
  exact ⟨z, us, 0, r, Heap.get?_push_size _ rfl⟩
end
noncomputable abbrev Sp := List V → Hp → VK → XK → Prop
noncomputable abbrev CXT := List Env → Hp → Shared → XK → Value → Shared → Prop
structure Env0 (P : Program) (w : World) (K : PySem.W.Frag) (mg : Str → Option Value) (base : Heap) (A : Around) (outer : List Env) (s : Shared) (H : Hp) : Prop where
  frames : A.frames = some outer
  mod : Mod K mg base
  bs : ∀ b o, base.get? b = some o → s.heap.get? b = some o ∧ H b = none
  bsz : base.objs.size ≤ s.heap.objs.size
  funs : s.heap.FunFrames base outer
  frf : ∀ b ∈ frs outer, H b = none
  hok : HOk P w H s.heap
  bare : AllBare s.gens
noncomputable def CE (outer : List Env) (P : Program) (w : World) (H : Hp) (s : Shared) (Q : VK) (u : Value) (s' : Shared) : Prop :=
  ∃ v H', s'.os = s.os ∧ AllBare s'.gens ∧ Un (frs outer) [] H H' s.heap s'.heap ∧ HOk P w H' s'.heap ∧ RelV v u ∧ Q v H'
noncomputable def CR (CX : CXT) (outer : List Env) (P : Program) (w : World) (H : Hp) (s : Shared) (Q : VK) (E : XK) (r : Result) (s' : Shared) : Prop :=
  match r with
  | .ok (.ret u) => CE outer P w H s Q u s'
  | .ok _ => False
  | .error e => CX outer H s E e s'
structure FnOk (P : Program) (w : World) (K : PySem.W.Frag) (mg : Str → Option Value) (base : Heap) (CX : CXT) (k : Nat) (f : Addr) (fd : FuncData) (ps : List Str) (sp : Sp) : Prop where
  len : ∀ vs H Q E, sp vs H Q E → vs.length = ps.length
  run : ∀ (A : Around) (outer : List Env) (s : Shared) (H : Hp) (args : Args) (us : List Value) (vs : List V) (Q : VK) (E : XK), Room k A → Env0 P w K mg base A outer s H → BindsTo s fd args (ps.zip us) → Vals vs us → sp vs H Q E →
    codeAny (model P w) A (.call (.ref f) args) (CR CX outer P w H s Q E) s
theorem Env0.make {P : Program} {w : World} {K : PySem.W.Frag} {mg : Str → Option Value} {base : Heap} {A : Around} {outer : List Env} {s : Shared} {H : Hp} (e : Env0 P w K mg base A outer s H) (C : Addr) (us : List Value) (kw : List (Str × Value)) :
    Env0 P w K mg base (A.under (.builtin "type.__call__" ⟨.ref C :: us, kw⟩)) outer s H := ⟨by first | exact e.frames | (simpa [Around.under, Code.envs, Code.isFrame, pushEnvs] using e.frames), e.mod, e.bs, e.bsz, e.funs, e.frf, e.hok, e.bare⟩
section
variable {X : Cx} {pins : List (Addr × Obj)} {σ : St} {H : Hp} {s s' : Shared}
theorem Inv.env0 (I : Inv X pins σ H s) : Env0 X.prog X.w X.K X.mg X.base X.A X.stack s H :=
  ⟨I.ok.frames, I.ok.mod, I.bs, Nat.le_trans I.ok.bsz I.sz, I.stack, I.stkFree, I.hok, I.bare⟩
theorem Inv.after {Q : VK} {u : Value} (I : Inv X pins σ H s) (h : CE X.stack X.prog X.w H s Q u s') : EP X pins σ Q u s' := by
  obtain ⟨v, H', os, bare, un, hok, r, q⟩ := h
  obtain ⟨hh, g, d, t, os'⟩ := s'
  obtain rfl : os' = s.os := os
  exact ⟨v, H', I.call (h' := hh) (g' := g) (d' := d) (t' := t) (ch := []) un hok bare (fun b z => absurd z (by simp)), r, q⟩
end
noncomputable def tCall (sp : Sp) (dvs : List V) (E : XK) (t : TA) : TE := fun σ H Q => t σ H fun vs H1 => sp (vs ++ dvs) H1 Q E
noncomputable def tMeth (C : Addr) (m : Str) (sp : Sp) (dvs : List V) (E : XK) (ta : TE) (t : TA) : TE := fun σ H Q => ta σ H fun x H1 => ∃ a dx fs, x = .ref a ∧ H1 a = some (.ins C dx fs) ∧ fs.lookup m = none ∧
  t σ H1 fun vs H2 => sp (x :: (vs ++ dvs)) H2 Q E
noncomputable def tMake (C : Addr) (sp : Sp) (dvs : List V) (E : XK) (t : TA) : TE := fun σ H Q => t σ H fun vs H1 => ∀ x dx, H1 x = none → H1 dx = none → dx ≠ x →
  sp (.ref x :: (vs ++ dvs)) (upd (upd H1 dx (.own x)) x (.ins C dx [])) (fun v H2 => v = .non ∧ Q (.ref x) H2) E
noncomputable def Binds (K : PySem.W.Frag) (fd : FuncData) (ps : List Str) (ds : List Value) : Prop :=
  ∀ (s : Shared) (us : List Value), K.In s.heap → (us ++ ds).length = ps.length → BindsTo s fd ⟨us, []⟩ (ps.zip (us ++ ds))
theorem Binds.all {K : PySem.W.Frag} {fd : FuncData} {ps : List Str} (h : ∀ us : List Value, us.length = ps.length → bindArgs fd ⟨us, []⟩ = pure (ps.zip us)) : Binds K fd ps [] := fun s us _ hl => by
  rw [List.append_nil] at hl ⊢
  exact .of_eq (h us hl)
noncomputable def Passes (CX : CXT) (X : Cx) (E : XK) : Prop := ∀ (pins : List (Addr × Obj)) (σ : St) (H : Hp) (s : Shared) (e : Value) (s' : Shared), Inv X pins σ H s → CX X.stack H s E e s' → X.xe e s'
section
variable {X : Cx} {CX : CXT} {k : Nat} {f C : Addr} {fd : FuncData} {ps : List Str} {sp : Sp} {dvs : List V} {ds : List Value} {E : XK} {x m : Str} {p pos apos : Pos} {e o : Expr} {es : List Expr} {ta : TE} {t : TA}
theorem run_fn {pins : List (Addr × Obj)} {σ : St} {H : Hp} {s : Shared} {Q : VK} {us : List Value} {vs : List V} (F : FnOk X.prog X.w X.K X.mg X.base CX k f fd ps sp) (hr : Room k X.A) (hb : Binds X.K fd ps ds) (hd : Vals dvs ds) (hx : Passes CX X E)
    (I : Inv X pins σ H s) (r : Vals vs us) (h : sp (vs ++ dvs) H Q E) : wpAny (model X.prog X.w) X.A (call (.ref f) us) (EP X pins σ Q) X.xe s := by
  have r2 : Vals (vs ++ dvs) (us ++ ds) := r.append hd
  have hl : (us ++ ds).length = ps.length := by rw [← r2.length]; exact F.len _ _ _ _ h
  refine wpAny_call (codeAny_mono (F.run X.A X.stack s H ⟨us, []⟩ (us ++ ds) (vs ++ dvs) Q E hr I.env0 (hb s us I.kIn hl) r2 h) fun r s' hq => ?_)
  cases r with
  | error e => exact hx pins σ H s e s' I hq
  | ok fl =>
    cases fl with
    | ret u => exact I.after hq
    | next => exact False.elim hq
    | brk => exact False.elim hq
    | cont => exact False.elim hq
theorem pe_call (F : FnOk X.prog X.w X.K X.mg X.base CX k f fd ps sp) (hr : Room k X.A) (hg : Gl X x) (hm : X.mg x = some (.ref f)) (hk : PySem.W.keepIn X.K (.ref f) = true) (hb : Binds X.K fd ps ds) (hd : Vals dvs ds) (hx : Passes CX X E)
    (ha : PA X (e :: es) t) (hdb : (x == ("__debug__" : Str)) = false := by decide) (he : starEach (e :: es) X.env = (false, eval e X.env) :: starEach es X.env := by rfl) (hpl : (backTo pos (starEach es X.env)).any (·.1) = false := by rfl) :
    PE X (.Call (.Name x p) (e :: es) [] pos) (tCall sp dvs E t) := by
  intro pins s σ H Q I h
  refine wpAny_Call_Name_kw (ld_glob I hg hm ?_ hdb)
  refine PySem.W.callWith_K (h₀ := X.base) I.ok.mod.kin hk (thn (ha pos pins s σ H _ I h) fun us s1 ⟨vs, H1, I1, r, q⟩ => ⟨I1.kIn, ?_⟩) he hpl
  exact run_fn F hr hb hd hx I1 r q
theorem pe_meth {pl : Sem Bool} (he : PE X o ta) (c : Cls X.K C) (hm : Meth X.K C m f) (F : FnOk X.prog X.w X.K X.mg X.base CX k f fd ps sp) (hr : Room k X.A) (hb : Binds X.K fd ps ds) (hd : Vals dvs ds) (hx : Passes CX X E) (ha : PA X (e :: es) t)
    (hst : starEach (e :: es) X.env = (false, eval e X.env) :: starEach es X.env := by rfl) (hpl : (backTo pos (starEach es X.env)).any (·.1) = false := by rfl)
    (ht : eval (.Call (.Attribute o m apos) (e :: es) [] pos) X.env = (do
      let ov ← eval o X.env
      standAt apos.atName
      let (f, first) ← holding [ov] (getMethod ov m pl)
      callWith pos f first (backTo pos (starEach (e :: es) X.env)) (backToKw pos (keywordEach [] X.env))) := by rfl) :
    PE X (.Call (.Attribute o m apos) (e :: es) [] pos) (tMeth C m sp dvs E ta t) := by
  intro pins s σ H Q I h
  refine PySem.W.methodCall_KW (pl := pl) (thn (he pins s σ H _ I h) fun u s1 ⟨x, H1, I1, rx, a, dx, fs, ex, ea, l, q⟩ => ?_) ht
  subst ex
  obtain rfl : u = Value.ref a := rx
  refine getmeth_ok I1 ea c hm l ?_
  refine PySem.W.callWith_K (first := [.ref a]) (h₀ := X.base) I.ok.mod.kin hm.kp (thn (ha pos pins s1 σ H1 _ I1 q) fun us s2 ⟨vs, H2, I2, r, q2⟩ => ⟨I2.kIn, ?_⟩) hst hpl
  exact run_fn (us := .ref a :: us) (vs := .ref a :: vs) F hr hb hd hx I2 (.cons rfl r) q2
structure Mk (K : PySem.W.Frag) (C f : Addr) : Prop where
  makes : PySem.W.makesIn K C = true
  init : PySem.W.findIn K (.ref C) "__init__" = some (some (.ref f))
  fn : PySem.W.isFn K (.ref f) = true
  kp : PySem.W.keepIn K (.ref C) = true
theorem run_make {pins : List (Addr × Obj)} {σ : St} {H : Hp} {s : Shared} {Q : VK} {us : List Value} {vs : List V} (M : Mk X.K C f) (F : FnOk X.prog X.w X.K X.mg X.base CX k f fd ps sp) (hr : Room (k + 1) X.A) (hb : Binds X.K fd ps ds) (hd : Vals dvs ds)
    (hx : Passes CX X E) (I : Inv X pins σ H s) (r : Vals vs us)
    (h : ∀ x dx, H x = none → H dx = none → dx ≠ x → sp (.ref x :: (vs ++ dvs)) (upd (upd H dx (.own x)) x (.ins C dx [])) (fun v H2 => v = .non ∧ Q (.ref x) H2) E) :
    wpAny (model X.prog X.w) X.A (call (.ref C) us) (EP X pins σ Q) X.xe s := by
  have hq := h (s.heap.objs.size + 1) s.heap.objs.size (I.hok.fresh (Nat.le_succ _)) (I.hok.fresh (Nat.le_refl _)) (Nat.ne_of_lt (Nat.lt_succ_self _))
  have I2 := Inv.made (C := C) I
  have r2 : Vals (V.ref (s.heap.objs.size + 1) :: (vs ++ dvs)) (Value.ref (s.heap.objs.size + 1) :: (us ++ ds)) := .cons rfl (r.append hd)
  have hl : (Value.ref (s.heap.objs.size + 1) :: us ++ ds).length = ps.length := by
    have e := r2.length
    rw [F.len _ _ _ _ hq] at e
    exact e.symm
  refine wpAny_call (make_map (f := f) I.kIn M.makes M.init (beq_iff_eq.mp M.fn) (codeAny_mono (F.run _ X.stack _ _ ⟨Value.ref (s.heap.objs.size + 1) :: us, []⟩ (Value.ref (s.heap.objs.size + 1) :: (us ++ ds)) _ _ E (hr.make C us [])
    (I2.env0.make C us []) (hb _ (Value.ref (s.heap.objs.size + 1) :: us) I2.kIn hl) r2 hq) fun r s' hq' => ?_))
  cases r with
  | error e => exact hx pins σ _ _ e s' I2 hq'
  | ok fl =>
    cases fl with
    | ret u =>
      obtain ⟨v, H', I3, rv, ev, q3⟩ := I2.after hq'
      subst ev
      exact ⟨rv, ⟨V.ref (s.heap.objs.size + 1), H', I3, rfl, q3⟩⟩
    | next => exact False.elim hq'
    | brk => exact False.elim hq'
    | cont => exact False.elim hq'
theorem pe_make0 (M : Mk X.K C f) (F : FnOk X.prog X.w X.K X.mg X.base CX k f fd ps sp) (hr : Room (k + 1) X.A) (hg : Gl X x) (hm : X.mg x = some (.ref C)) (hb : Binds X.K fd ps ds) (hd : Vals dvs ds) (hx : Passes CX X E)
    (hdb : (x == ("__debug__" : Str)) = false := by decide) : PE X (.Call (.Name x p) [] [] pos) (tMake C sp dvs E tNil) := by
  intro pins s σ H Q I h
  refine wpAny_Call_Name_kw (ld_glob I hg hm ?_ hdb)
  exact PySem.W.callWith_K0 I.kIn M.kp (run_make (us := []) M F hr hb hd hx I .nil h)
end
section
variable {X : Cx} {CX : CXT} {k : Nat} {f C : Addr} {fd : FuncData} {ps ks : List Str} {sp : Sp} {E : XK} {x m : Str} {p pos apos kpos : Pos} {e o : Expr} {es : List Expr} {kws : List Keyword} {te ta : TE} {t tk : TA} {nm : Option Str}
variable {g : List Value → List Value → List Value} {gV : List V → List V → List V}
end
structure FnScope (N P : List Str) (sc : Scope) : Prop where
  kind : sc.kind = .function
  co : sc.isCoroutine = false
  gen : sc.isGenerator = false
  nd : N.Nodup
  pre : N.take P.length = P
  par : ∀ x ∈ P, sc.names.lookup x = some .local ∨ sc.names.lookup x = some .cell
  nofree : ∀ y ∈ sc.names, y.2 ≠ .free
theorem bindL_out {kindOf : Str → Option NameKind} {x : Str} : ∀ {binds : List (Str × Value)} {m : Str → Option Value}, (∀ v, (x, v) ∉ binds) → bindL kindOf binds m x = m x
  | [], _, _ => rfl
  | (n, v) :: r, m, h => by
    unfold bindL
    rw [bindL_out fun w hw => h w (List.mem_cons_of_mem _ hw)]
    split
    · have : x ≠ n := by rintro rfl; exact h v List.mem_cons_self
      simp [this]
    · rfl
theorem bindC_out {kindOf : Str → Option NameKind} {x : Str} : ∀ {binds : List (Str × Value)} {m : Str → Option Value}, (∀ v, (x, v) ∉ binds) → bindC kindOf binds m x = m x
  | [], _, _ => rfl
  | (n, v) :: r, m, h => by
    unfold bindC
    rw [bindC_out fun w hw => h w (List.mem_cons_of_mem _ hw)]
    split
    · rfl
    · have : x ≠ n := by rintro rfl; exact h v List.mem_cons_self
      simp [this]
theorem bindL_get {kindOf : Str → Option NameKind} {x : Str} {v : Value} : ∀ {P : List Str} {vs : List Value} {i : Nat} {m : Str → Option Value}, P.Nodup → P[i]? = some x → vs[i]? = some v → kindOf x = some .local →
    bindL kindOf (P.zip vs) m x = some v
  | [], _, _, _, _, h, _, _ => by simp at h
  | _ :: _, [], _, _, _, _, h, _ => by simp at h
  | p :: P, w :: vs, 0, m, nd, h1, h2, hk => by
    simp at h1 h2; subst h1; subst h2
    show bindL kindOf ((p, w) :: P.zip vs) m p = _
    unfold bindL
    rw [bindL_out fun v hv => (List.nodup_cons.mp nd).1 (List.of_mem_zip hv).1, if_pos hk]
    simp
  | p :: P, w :: vs, i + 1, m, nd, h1, h2, hk => by
    show bindL kindOf ((p, w) :: P.zip vs) m x = _
    unfold bindL
    exact bindL_get (i := i) (List.nodup_cons.mp nd).2 (by simpa using h1) (by simpa using h2) hk
theorem bindC_get {kindOf : Str → Option NameKind} {x : Str} {v : Value} : ∀ {P : List Str} {vs : List Value} {i : Nat} {m : Str → Option Value}, P.Nodup → P[i]? = some x → vs[i]? = some v → kindOf x ≠ some .local →
    bindC kindOf (P.zip vs) m x = some v
  | [], _, _, _, _, h, _, _ => by simp at h
  | _ :: _, [], _, _, _, _, h, _ => by simp at h
  | p :: P, w :: vs, 0, m, nd, h1, h2, hk => by
    simp at h1 h2; subst h1; subst h2
    show bindC kindOf ((p, w) :: P.zip vs) m p = _
    unfold bindC
    rw [bindC_out fun v hv => (List.nodup_cons.mp nd).1 (List.of_mem_zip hv).1, if_neg hk]
    simp
  | p :: P, w :: vs, i + 1, m, nd, h1, h2, hk => by
    show bindC kindOf ((p, w) :: P.zip vs) m x = _
    unfold bindC
    exact bindC_get (i := i) (List.nodup_cons.mp nd).2 (by simpa using h1) (by simpa using h2) hk
noncomputable def start (N : List Str) (vs : List V) : St := vs.map some ++ List.replicate (N.length - vs.length) none
noncomputable def cxOf (CX : CXT) (P : Program) (w : World) (K : PySem.W.Frag) (mg : Str → Option Value) (base : Heap) (N : List Str) (qual : Str) (scope : Scope) (f : Addr) (cd : Value) (A : Around) (outer : List Env) (s : Shared) (H : Hp) (E : XK) : Cx where
  prog := P
  w := w
  K := K
  mg := mg
  base := base
  A := A.deeper (envOfC qual scope s.heap.objs.size f cd)
  N := N
  s₀ := s
  H₀ := H
  env := envOfC qual scope s.heap.objs.size f cd
  outer := outer
  stack := envOfC qual scope s.heap.objs.size f cd :: outer
  ex := []
  calm := true
  fn := fun _ => true
  pn := []
  xe := fun e s' => wpAny (model P w) (A.deeper (envOfC qual scope s.heap.objs.size f cd)) (leaving (envOfC qual scope s.heap.objs.size f cd) e) (fun _ s'' => CX outer H s E e s'') (fun e' s'' => CX outer H s E e' s'') s'
theorem cell_has {sc : Scope} {n : Nat} {x : Str} (h : sc.names.lookup x = some .cell) : ∃ c, (cellsFrom n sc.names []).lookup x = some c := by
  have q := PySem.W.cellsFrom_some sc.names n [] (.inl h)
  exact Option.isSome_iff_exists.mp q
theorem inv_start {CX : CXT} {P : Program} {w : World} {K : PySem.W.Frag} {mg : Str → Option Value} {base : Heap} {N ps : List Str} {qual : Str} {scope : Scope} {f : Addr} {cd : Value} {A : Around} {outer : List Env} {s s1 : Shared} {H : Hp} {E : XK} {us : List Value} {vs : List V}
    (S : FnScope N ps scope) (hd : A.handled = none) (e0 : Env0 P w K mg base A outer s H) (hl : vs.length = ps.length) (r : Vals vs us)
    (x : InCallC s s.heap.objs.size (bindL (envOfC qual scope s.heap.objs.size f cd).kindOf (ps.zip us) fun _ => none) (cellsFrom (s.heap.objs.size + 1) scope.names []) (bindC (envOfC qual scope s.heap.objs.size f cd).kindOf (ps.zip us) fun _ => none) s1) :
    Inv (cxOf CX P w K mg base N qual scope f cd A outer s H E) [] (start N vs) H s1 := by
  have hpl : ps.length ≤ N.length := by have := congrArg List.length S.pre; rw [List.length_take] at this; omega
  obtain ⟨h1, tk, rfl, hk⟩ := x.done
  have noA : ∀ b : Addr, b ∉ (cxOf CX P w K mg base N qual scope f cd A outer s H E).ex := fun b z => absurd (show b ∈ ([] : List Addr) from z) (by simp)
  refine ⟨⟨e0.mod, S.kind, rfl, rfl, Nat.le_refl _, fun y z c h1 h2 => ?_, fun y hy => ?_, fun y c _ h => ?_, fun _ => hd, Around.frames_deeper e0.frames, .inr ⟨rfl, rfl⟩, fun b z => absurd z (noA b), e0.bs, e0.bsz, fun b _ _ => noA b, fun b z => absurd z (noA b), e0.funs, e0.frf⟩,
    rfl, e0.bare, Un.kept hk, ⟨_, x.toInCall.ns, fun i y v h1 h2 h3 => ?_⟩, fun y c h => ⟨_, x.cell y c h⟩, e0.hok.fresh (Nat.le_refl _), fun y c h => ?_, fun p hp => absurd (show p ∈ ([] : List (Addr × Obj)) from hp) (by simp), e0.hok.kept hk, ?_⟩
  · exact name_of_addr x.apart (PySem.mem_of_lookup h1) (PySem.mem_of_lookup h2)
  · have hy : scope.names.lookup y = some .cell ∨ scope.names.lookup y = some .free := hy
    rcases hy with hy | hy
    · exact cell_has hy
    · exact absurd rfl (S.nofree _ (PySem.mem_of_lookup hy))
  · exact Nat.le_of_lt (x.above y c (PySem.mem_of_lookup h))
  · have hi : i < vs.length := by
      unfold start at h2
      by_cases hi : i < vs.length
      · exact hi
      · rw [List.getElem?_append_right (by simpa using hi)] at h2
        rw [List.getElem?_replicate] at h2
        split at h2 <;> cases h2
    have ha : vs[i]? = some v := by
      unfold start at h2
      rw [List.getElem?_append_left (by simpa using hi), List.getElem?_map] at h2
      cases e : vs[i]? with
      | none => rw [e] at h2; cases h2
      | some a => rw [e] at h2; cases h2; rfl
    obtain ⟨u, hu, rv⟩ := r.get ha
    have hp : ps[i]? = some y := by
      rw [← S.pre, List.getElem?_take_of_lt (by omega)]; exact h1
    have ndP : ps.Nodup := by rw [← S.pre]; exact S.nd.sublist (List.take_sublist _ _)
    refine ⟨u, rv, ?_⟩
    rcases S.par y (List.mem_of_getElem? hp) with k | k
    · exact .inl ⟨k, bindL_get ndP hp hu k⟩
    · obtain ⟨c, e⟩ := cell_has (n := s.heap.objs.size + 1) k
      refine .inr ⟨.inl k, c, e, ?_⟩
      have q := x.cell y c e
      rw [bindC_get ndP hp hu (by show scope.names.lookup y ≠ _; rw [k]; decide)] at q
      exact q
  · exact e0.hok.fresh (Nat.le_of_lt (x.above y c (PySem.mem_of_lookup h)))
  · unfold start
    show _ = N.length
    rw [List.length_append, List.length_map, List.length_replicate]
    omega
theorem fn_of {CX : CXT} {P : Program} {w : World} {K : PySem.W.Frag} {mg : Str → Option Value} {base : Heap} {k : Nat} {f : Addr} {name qual : Str} {params : Arguments} {body : List Stmt} {scope : Scope} {dV kV doc pm cdv ct oc : Value} {an od : Option Addr}
    {osl : Array (Option Value)} {N ps : List Str} {sp : Sp} (lk : K.lookup f = some ⟨oc, od, .func (PySem.W.fnOf name qual params body scope dV kV doc pm an cdv ct), osl⟩) (hcd : PySem.W.codeIn K cdv qual = true) (S : FnScope N ps scope)
    (len : ∀ vs H Q E, sp vs H Q E → vs.length = ps.length)
    (hbody : ∀ (A : Around) (outer : List Env) (s : Shared) (H : Hp) (vs : List V) (Q : VK) (E : XK), Room k (A.deeper (envOfC qual scope s.heap.objs.size f cdv)) → sp vs H Q E →
      ∃ t, PSs (cxOf CX P w K mg base N qual scope f cdv A outer s H E) body t ∧ t { nx := fun _ H' => Q .non H', rt := Q } (start N vs) H) :
    FnOk P w K mg base CX (k + 1) f (PySem.W.fnOf name qual params body scope dV kV doc pm an cdv ct) ps sp := by
  refine ⟨len, fun A outer s H args us vs Q E hr e0 hb r hsp => ?_⟩
  have hl := len _ _ _ _ hsp
  have KX : K.In s.heap := e0.mod.kin.keeps fun b o e => (e0.bs b o e).1
  have lim : s.heap.NoLimit := e0.mod.nolimit.keeps fun b o e => (e0.bs b o e).1
  have hkind : ∀ y ∈ ps.zip us, scope.names.lookup y.1 = some .local ∨ (scope.names.lookup y.1 = some .cell ∧ ((cellsFrom (s.heap.objs.size + 1) scope.names []).lookup y.1).isSome = true) := fun ⟨n, v⟩ hy => by
    rcases S.par n (List.of_mem_zip hy).1 with q | q
    · exact .inl q
    · exact .inr ⟨q, PySem.W.cellsFrom_some _ _ _ (.inl q)⟩
  refine codeAny_call_function hr.depth (KX _ _ lk) rfl S.co S.gen rfl (PySem.W.codeRec_of KX hcd) (hb _ _ _ _ ?_)
  refine wpAny_newFunctionEnv_cells S.kind hkind fun env he s1 x => ?_
  subst he
  refine ⟨lim.keeps x.toInCall.keep, codeAny_func ?_⟩
  obtain ⟨t, ht, hq⟩ := hbody A outer s H vs Q E (hr.deeper _) hsp
  have I : Inv (cxOf CX P w K mg base N qual scope f cdv A outer s H E) [] (start N vs) H s1 := inv_start S hr.hd e0 hl r x
  refine wpAny_mono (ht [] s1 (start N vs) H _ I hq) (fun fl s' hs => ?_) fun e s' hs => hs
  have fin : ∀ {σ' : St} {H' : Hp} {v : V} {u : Value}, Inv (cxOf CX P w K mg base N qual scope f cdv A outer s H E) [] σ' H' s' → RelV v u → Q v H' → CE outer P w H s Q u s' :=
    fun {σ' H' v u} J rv q => ⟨v, H', J.os, J.bare, J.base, J.hok, rv, q⟩
  cases fl with
  | ret u =>
    obtain ⟨v, σ', H', J, rv, q⟩ := hs
    exact fin J rv q
  | next =>
    obtain ⟨σ', H', J, q⟩ := hs
    exact fin (v := V.non) (u := Value.none) J rfl q
  | brk =>
    obtain ⟨_, _, _, q⟩ := hs
    exact False.elim q
  | cont =>
    obtain ⟨_, _, _, q⟩ := hs
    exact False.elim q
end L2
namespace L2
open PySem PySem.Spec PyProof.Rows
section
variable {X : Cx} {x : Str} {p pos : Pos} {e : Expr} {es : List Expr} {t : TA} {id T : String} {r : List V → Hp → VK → Prop}
noncomputable def tCB (r : List V → Hp → VK → Prop) (t : TA) : TE := fun σ H Q => t σ H fun vs H1 => r vs H1 Q
theorem pe_callB (hc : CallR X (.builtin id) r) (hg : Gl X x) (hm : X.mg x = none) (hv : bootBuiltins x = some (.builtin id)) (ha : PA X (e :: es) t) (hn : x ≠ "__name__" := by decide) (hdb : (x == ("__debug__" : Str)) = false := by decide)
    (he : starEach (e :: es) X.env = (false, eval e X.env) :: starEach es X.env := by rfl) (hpl : (backTo pos (starEach es X.env)).any (·.1) = false := by rfl) : PE X (.Call (.Name x p) (e :: es) [] pos) (tCB r t) := by
  intro pins s σ H Q I h
  refine wpAny_Call_Name_kw (ld_blt I hg hm hv ?_ hn hdb)
  exact PyProof.Rows.callWith_builtin1 (thn (ha pos pins s σ H _ I h) fun us s1 ⟨vs, H1, I1, r1, q1⟩ => hc pins s1 σ H1 vs us Q I1 r1 q1) he hpl
theorem pe_callTy (hc : CallR X (.type T) r) (hg : Gl X x) (hm : X.mg x = none) (hv : bootBuiltins x = some (.type T)) (ha : PA X (e :: es) t) (hn : x ≠ "__name__" := by decide) (hdb : (x == ("__debug__" : Str)) = false := by decide)
    (he : starEach (e :: es) X.env = (false, eval e X.env) :: starEach es X.env := by rfl) (hpl : (backTo pos (starEach es X.env)).any (·.1) = false := by rfl) : PE X (.Call (.Name x p) (e :: es) [] pos) (tCB r t) := by
  intro pins s σ H Q I h
  refine wpAny_Call_Name_kw (ld_blt I hg hm hv ?_ hn hdb)
  exact PyProof.Rows.callWith_type1 (thn (ha pos pins s σ H _ I h) fun us s1 ⟨vs, H1, I1, r1, q1⟩ => hc pins s1 σ H1 vs us Q I1 r1 q1) he hpl
end
end L2
namespace HT
open PySem PyProof.Rows
section
open PySem.SeqAt
open PySem.AutoSeq1 (wpAny_loadPart')
open PySem.MeetsSeq PySem.MeetsSeq2 PySem.MeetsSeq3
end
section
variable {prog : Program} {w : World} {A : Around} {E : Value → Shared → Prop} {s : Shared}
noncomputable def sIx (n d : Nat) : Option Int → Nat
  | none => d
  | some v => if v < 0 then (v + (n : Int)).toNat else min v.toNat n
theorem sIx_none (n d : Nat) : sIx n d none = d := rfl
theorem sIx_nat (n d k : Nat) : sIx n d (some (k : Int)) = min k n := by
  show (if (k : Int) < 0 then ((k : Int) + (n : Int)).toNat else min (k : Int).toNat n) = min k n
  rw [if_neg (by omega), Int.toNat_natCast]
end
end HT
namespace L2
open PySem PySem.Spec PyProof.Rows
noncomputable abbrev TO := St → Hp → (Option Int → Hp → Prop) → Prop
noncomputable def PO (X : Cx) (e : Option Expr) (t : TO) : Prop :=
  ∀ (pins : List (Addr × Obj)) (s : Shared) (σ : St) (H : Hp) (Q : Option Int → Hp → Prop), Inv X pins σ H s → t σ H Q →
    wpAny (model X.prog X.w) X.A (evalPart e X.env) (fun u s' => ∃ o H', Inv X pins σ H' s' ∧ IsPart u o ∧ Q o H') X.xe s
noncomputable def tNoPart : TO := fun _ H Q => Q none H
noncomputable def tPart (t : TE) : TO := fun σ H Q => t σ H fun x H1 => ∃ i, x = .int i ∧ Q (some i) H1
theorem intsAre_of {ns : List Int} : ∀ {us : List Value}, Vals (ns.map V.int) us → IntsAre us ns := by
  induction ns with
  | nil => intro us r; rw [List.map_nil] at r; cases r; exact .nil
  | cons n ns ih =>
    intro us r
    rw [List.map_cons] at r
    cases r with
    | cons r1 r2 =>
      obtain ⟨t, e⟩ := r1
      subst e
      exact .cons n t (ih r2)
section
variable {X : Cx} {e : Expr} {te : TE} {lo hi : Option Expr} {tl th : TO} {pos p2 : Pos}
theorem po_none : PO X none tNoPart := by
  intro pins s σ H Q I h
  rw [evalPart_none]
  exact wpAny_pure ⟨none, H, I, .none, h⟩
theorem po_some (h : PE X e te) : PO X (some e) (tPart te) := by
  intro pins s σ H Q I hw
  rw [evalPart_some]
  refine thn (h pins s σ H _ I hw) fun u s1 ⟨x, H1, I1, r1, q1⟩ => ?_
  obtain ⟨i, rfl, q⟩ := q1
  obtain ⟨t, rfl⟩ := r1
  exact ⟨some i, H1, I1, .int i t, q⟩
noncomputable def SlR (X : Cx) (r : V → Option Int → Option Int → Hp → VK → Prop) : Prop :=
  ∀ (pins : List (Addr × Obj)) (s : Shared) (σ : St) (H : Hp) (x : V) (v vl vu : Value) (lo hi : Option Int) (sl : Addr) (Q : VK), Inv X pins σ H s → RelV x v → s.heap.IsSliceOf sl vl vu .none → IsPart vl lo → IsPart vu hi → r x lo hi H Q →
    ∃ T id, typeLookup (.type T) "__getitem__" = pure (some (.builtin id)) ∧ s.TypeIs v T ∧ wpAny (model X.prog X.w) X.A (getItem v (.ref sl)) (EP X pins σ Q) X.xe s
noncomputable def tSl (r : V → Option Int → Option Int → Hp → VK → Prop) (te : TE) (tl th : TO) : TE := fun σ H Q => te σ H fun x H1 => tl σ H1 fun l H2 => th σ H2 fun u H3 => r x l u H3 Q
theorem pe_slice {r : V → Option Int → Option Int → Hp → VK → Prop} (hr : SlR X r) (he : PE X e te) (hl : PO X lo tl) (hu : PO X hi th) : PE X (.Subscript e (.Slice lo hi none p2) pos) (tSl r te tl th) := by
  intro pins s σ H Q I h
  refine Subscript_ (thn (he pins s σ H _ I h) fun v s1 ⟨x, H1, I1, r1, q1⟩ => ?_)
  refine wpAny_Slice (thn (hl pins s1 σ H1 _ I1 q1) fun vl s2 ⟨l, H2, I2, pl, q2⟩ => thn (hu pins s2 σ H2 _ I2 q2) fun vu s3 ⟨u, H3, I3, pu, q3⟩ => ?_)
  rw [evalPart_none]
  refine wpAny_pure ?_
  have I4 : Inv X pins σ H3 { s3 with heap := s3.heap.push { cls := .type "slice", data := .fields #[vl, vu, .none] } } := I3.kept (t' := s3.toks) fun b ob q => Heap.get?_push_of_some _ q
  obtain ⟨T, id, hT, ht, hg⟩ := hr pins { s3 with heap := s3.heap.push { cls := .type "slice", data := .fields #[vl, vu, .none] } } σ H3 x v vl vu l u s3.heap.objs.size Q I4 r1 (Heap.IsSliceOf.new ..) pl pu q3
  show wpAny (model X.prog X.w) X.A (subscriptTail e (.Slice lo hi none p2) v (.ref s3.heap.objs.size)) (EP X pins σ Q) X.xe { s3 with heap := s3.heap.push { cls := .type "slice", data := .fields #[vl, vu, .none] } }
  exact tail_any (ops := [.ref s3.heap.objs.size, v]) ht hT hg (by with_unfolding_all rfl)
noncomputable def cutV (xs : List V) (lo hi : Option Int) : List V := (xs.drop (HT.sIx xs.length 0 lo)).take (HT.sIx xs.length xs.length hi - HT.sIx xs.length 0 lo)
theorem cutV_length (xs : List V) (lo hi : Option Int) : (cutV xs lo hi).length ≤ xs.length := by
  unfold cutV
  rw [List.length_take, List.length_drop]
  omega
end
end L2
namespace L2
open PySem PySem.Spec PyProof.Rows
noncomputable def ixN (n : Nat) (i : Int) : Option Nat := if 0 ≤ i then (if i < n then some i.toNat else none) else if -(n : Int) ≤ i then some (i + n).toNat else none
noncomputable def atI {α : Type} (xs : List α) (i : Int) : Option α := (ixN xs.length i).bind fun j => xs[j]?
theorem ixN_seq {n : Nat} {i : Int} {j : Nat} (h : ixN n i = some j) : seqIndex? i n = some j ∧ j < n ∧ -(n : Int) ≤ i ∧ i < n := by
  unfold ixN at h
  by_cases h0 : 0 ≤ i
  · rw [if_pos h0] at h
    by_cases h1 : i < n
    · rw [if_pos h1] at h
      have e : i.toNat = j := Option.some.inj h
      exact ⟨by rw [seqIndex_of h0 h1, e], by omega, by omega, h1⟩
    · rw [if_neg h1] at h; cases h
  · rw [if_neg h0] at h
    by_cases h1 : -(n : Int) ≤ i
    · rw [if_pos h1] at h
      have e : (i + n).toNat = j := Option.some.inj h
      exact ⟨by rw [seqIndex_neg (by omega) h1, e], by omega, h1, by omega⟩
    · rw [if_neg h1] at h; cases h
theorem atI_get {α : Type} {xs : List α} {i : Int} {v : α} (h : atI xs i = some v) : ∃ j, seqIndex? i xs.length = some j ∧ xs[j]? = some v ∧ j < xs.length ∧ -(xs.length : Int) ≤ i ∧ i < xs.length := by
  unfold atI at h
  cases e : ixN xs.length i with
  | none => rw [e] at h; cases h
  | some j =>
    rw [e] at h
    obtain ⟨h1, h2, h3, h4⟩ := ixN_seq e
    exact ⟨j, h1, h, h2, h3, h4⟩
theorem atI_nat {α : Type} {xs : List α} {j : Nat} {v : α} (h : xs[j]? = some v) : atI xs (j : Int) = some v := by
  have hj : j < xs.length := (List.getElem?_eq_some_iff.mp h).1
  have e : ixN xs.length (j : Int) = some j := by
    unfold ixN
    rw [if_pos (by omega), if_pos (by omega)]; simp
  unfold atI; rw [e]; exact h
theorem atI_last {α : Type} (xs : List α) (v : α) : atI (xs ++ [v]) (-1) = some v := by
  have hl : (xs ++ [v]).length = xs.length + 1 := by simp
  have e : ixN (xs ++ [v]).length (-1) = some xs.length := by
    unfold ixN
    rw [hl, if_neg (by decide), if_pos (by omega)]
    congr 1
    omega
  unfold atI
  rw [e]
  show (xs ++ [v])[xs.length]? = some v
  simp
noncomputable def PlainIx (b : Expr) : Prop := ∀ o i, subscripted b false o i = operate [o, i] (getItem o i)
noncomputable def IxR (X : Cx) (r : R2) : Prop :=
  ∀ (value slice : Expr) (pins : List (Addr × Obj)) (s : Shared) (σ : St) (H : Hp) (x y : V) (v u : Value) (Q : VK), Inv X pins σ H s → RelV x v → RelV y u → r x y H Q →
    subscripted slice false v u = operate [v, u] (getItem v u) → wpAny (model X.prog X.w) X.A (subscriptTail value slice v u) (EP X pins σ Q) X.xe s
noncomputable def MtR (X : Cx) (id : String) (r : V → List V → Hp → VK → Prop) : Prop :=
  ∀ (pins : List (Addr × Obj)) (s : Shared) (σ : St) (H : Hp) (x : V) (xs : List V) (v : Value) (us : List Value) (Q : VK), Inv X pins σ H s → RelV x v → Vals xs us → r x xs H Q →
    wpAny (model X.prog X.w) X.A (call (.builtin id) (v :: us)) (EP X pins σ Q) X.xe s
section
variable {X : Cx} {a b : Expr} {ta tb : TE} {pos : Pos}
theorem pe_ix {r : R2} (hr : IxR X r) (ha : PE X a ta) (hb : PE X b tb) (hs : PlainIx b) : PE X (.Subscript a b pos) (tOp r ta tb) := by
  intro pins s σ H Q I h
  exact Subscript_ (binT ha hb I h fun v u s2 x y H2 I2 rx ry q => hr a b pins s2 σ H2 x y v u Q I2 rx ry q (hs _ _))
noncomputable def rIxL (K : PySem.W.Frag) : R2 := fun x y H Q => ∃ p xs i v, x = .ref p ∧ y = .int i ∧ SqL K H p xs ∧ atI xs i = some v ∧ Q v H
theorem ix_list : IxR X (rIxL X.K) := by
  intro value slice pins s σ H x y v u Q I rx ry h hs
  obtain ⟨p, xs, i, z, rfl, rfl, hq, he, q⟩ := h
  cases rx
  obtain ⟨t, rfl⟩ := ry
  obtain ⟨its, r, pl, hz⟩ := I.list hq
  obtain ⟨j, h1, h2, h3, h4, h5⟩ := atI_get he
  obtain ⟨w, ew, rw'⟩ := r.get h2
  have hl := r.length
  have hn := line63
  have fin : EP X pins σ Q w s := ⟨z, H, I, rw', q⟩
  by_cases h0 : 0 ≤ i
  · have hj : i.toNat = j := by
      rw [seqIndex_of h0 h5] at h1
      exact Option.some.inj h1
    exact item_listR pl.isList h0 (by omega) (by rw [hj]; simpa using ew) fin hs
  · have hj : (i + (its.toArray.size : Int)).toNat = j := by
      rw [seqIndex_neg (by omega) h4] at h1
      rw [List.size_toArray, ← hl]
      exact Option.some.inj h1
    exact subscriptTail_builtinR (x := w) pl.isList.typeIs slot_list_getitem.lookup
      (wpAny_getItem_list_neg (Q := fun r s' => r = w ∧ EP X pins σ Q r s') pl.isList (by omega) (by rw [List.size_toArray] <;> omega) (by omega) (by rw [hj]; simpa using ew) ⟨rfl, fin⟩) hs
theorem mapSeq_set (its : List Value) (n j : Nat) (u : Value) : Obj.mapSeq (·.setIfInBounds j u) { cls := .type "list", data := .seq its.toArray n } = { cls := .type "list", data := .seq (its.set j u).toArray n } := by
  simp [Obj.mapSeq]
theorem Inv.lst {pins : List (Addr × Obj)} {σ : St} {H : Hp} {s : Shared} {p : Addr} {xs : List V} (I : Inv X pins σ H s) (h : H p = some (.lst xs)) :
    ∃ (its : List Value) (n : Nat), Vals xs its ∧ s.heap.get? p = some { cls := .type "list", data := .seq its.toArray n } ∧ xs.length ≤ sizeLine := by
  obtain ⟨z, its, n, r, e⟩ := I.hok p _ h
  exact ⟨its, n, r, e, z⟩
theorem Inv.lstUpd {pins : List (Addr × Obj)} {σ : St} {H : Hp} {s : Shared} {p : Addr} {xs ys : List V} {its its' : List Value} {n n' : Nat} {f : Obj → Obj} (I : Inv X pins σ H s) (h : H p = some (.lst xs))
    (ho : s.heap.get? p = some { cls := .type "list", data := .seq its.toArray n }) (hf : f { cls := .type "list", data := .seq its.toArray n } = { cls := .type "list", data := .seq its'.toArray n' }) (r : Vals ys its') (hz : ys.length ≤ sizeLine) (t : Nat) :
    Inv X pins σ (upd H p (.lst ys)) { s with heap := s.heap.update p f, toks := t } := by
  have e : (s.heap.update p f).get? p = some { cls := .type "list", data := .seq its'.toArray n' } := by
    rw [Heap.get?_update_self f ho (by rw [hf] <;> rfl), hf]
  refine I.write (x := p) (e := p) (by rw [h]; trivial) (.inl rfl) (fun b u hb q => (Heap.get?_update_other _ _ (Ne.symm hb)).trans q) ⟨_, e⟩ ?_
  exact ⟨hz, its', n', r, e⟩
noncomputable def rSetL : V → V → V → Hp → (Hp → Prop) → Prop := fun o i v H Q => ∃ p xs k j, o = .ref p ∧ i = .int k ∧ H p = some (.lst xs) ∧ ixN xs.length k = some j ∧ Q (upd H p (.lst (xs.set j v)))
theorem set_list : PSet X rSetL := by
  intro pins s σ H o i v ov iv u Q I ro ri rv h
  obtain ⟨p, xs, k, j, rfl, rfl, hp, hj, q⟩ := h
  cases ro
  obtain ⟨t, rfl⟩ := ri
  obtain ⟨its, n, r, ho, hz⟩ := I.lst hp
  obtain ⟨h1, h2, h3, h4⟩ := ixN_seq hj
  have hl := r.length
  have hn := line63
  have I' : Inv X pins σ (upd H p (.lst (xs.set j v))) { s with heap := s.heap.update p (Obj.mapSeq (·.setIfInBounds j u)) } :=
    I.lstUpd hp ho (mapSeq_set its n j u) (r.set rv j) (by rw [List.length_set]; exact hz) s.toks
  by_cases h0 : 0 ≤ k
  · have hk : k.toNat = j := by
      rw [seqIndex_of h0 h4] at h1
      exact Option.some.inj h1
    exact PySem.W.ki_setAt ho h0 (by omega) (by rw [List.size_toArray, ← hl]; exact h4) (by rw [hk]; exact ⟨_, I', q⟩)
  · have hk : (k + (its.toArray.size : Int)).toNat = j := by
      rw [seqIndex_neg (by omega) h3] at h1
      rw [List.size_toArray, ← hl]
      exact Option.some.inj h1
    exact PySem.W.ki_setBack ho (by omega) (by rw [List.size_toArray, ← hl]; exact h3) (by omega) (by rw [hk]; exact ⟨_, I', q⟩)
theorem slice_bounds (lo hi : Option Int) (n : Nat) : (sliceBounds lo hi none n).1 = ((HT.sIx n 0 lo : Nat) : Int) ∧ (sliceBounds lo hi none n).2.1 = ((HT.sIx n n hi : Nat) : Int) ∧ (sliceBounds lo hi none n).2.2 = 1 := by
  refine ⟨?_, ?_, rfl⟩
  · cases lo with
    | none => simp [sliceBounds, HT.sIx]
    | some i =>
      simp only [sliceBounds, HT.sIx, Option.getD_none, show (1 : Int) > 0 by decide, if_true]
      by_cases h : i < 0
      · simp only [h, if_true] <;> omega
      · simp only [h, if_false] <;> omega
  · cases hi with
    | none => simp [sliceBounds, HT.sIx]
    | some i =>
      simp only [sliceBounds, HT.sIx, Option.getD_none, show (1 : Int) > 0 by decide, if_true]
      by_cases h : i < 0
      · simp only [h, if_true] <;> omega
      · simp only [h, if_false] <;> omega
theorem slicePick_cut (its : List Value) (lo hi : Option Int) : slicePick its.toArray lo hi none = ((its.drop (HT.sIx its.length 0 lo)).take (HT.sIx its.length its.length hi - HT.sIx its.length 0 lo)).toArray := by
  obtain ⟨h1, h2, h3⟩ := slice_bounds lo hi its.toArray.size
  unfold slicePick
  rw [h1, h2, h3]
  simp only [sliceRange_one, pick_run, List.size_toArray] <;> rfl
noncomputable def rSlL (K : PySem.W.Frag) : V → Option Int → Option Int → Hp → VK → Prop := fun x lo hi H Q => ∃ a xs, x = .ref a ∧ SqL K H a xs ∧ ∀ p, H p = none → Q (.ref p) (upd H p (.lst (cutV xs lo hi)))
theorem sl_list : SlR X (rSlL X.K) := by
  intro pins s σ H x v vl vu lo hi sl Q I rx hs pl pu h
  obtain ⟨a, xs, rfl, hx, q⟩ := h
  cases rx
  obtain ⟨its, r, ht, hz⟩ := I.list hx
  have hlen := r.length
  refine ⟨"list", _, slot_list_getitem.lookup, ht.isList.typeIs, ?_⟩
  refine wpAny_getItem_list_slice ht.isList hs pl pu .none (by simp) ?_ (by rw [List.size_toArray] <;> omega)
  rw [slicePick_cut, ← hlen]
  refine ⟨.ref s.heap.objs.size, _, I.laid (t' := s.toks) (o := .lst (cutV xs lo hi)) (fun b ob q => Heap.get?_push_of_some _ q) (Nat.le_refl _) ?_, rfl, q _ (I.hok.fresh (Nat.le_refl _))⟩
  exact ⟨Nat.le_trans (cutV_length xs lo hi) hz, _, 0, (r.drop (HT.sIx xs.length 0 lo)).take (HT.sIx xs.length xs.length hi - HT.sIx xs.length 0 lo), Heap.get?_push_size _ rfl⟩
noncomputable def flatV : V → Bool
  | .non => true
  | .bl _ => true
  | .int _ => true
  | .str _ => true
  | _ => false
noncomputable def eqV : V → V → Bool
  | .non, .non => true
  | .bl a, .bl b => a == b
  | .bl a, .int b => (if a then 1 else 0) == b
  | .int a, .bl b => a == (if b then 1 else 0)
  | .int a, .int b => a == b
  | .str a, .str b => a == b
  | _, _ => false
theorem eqAt_V {A : Around} {s : Shared} {y x : V} {u v : Value} (ry : RelV y u) (rx : RelV x v) (fy : flatV y = true) (fx : flatV x = true) : SeqAt.EqAt A s u v (eqV y x) := by
  cases y with
  | non =>
    cases ry
    cases x with
    | non => cases rx; exact SeqAt.EqAt.same _
    | bl b => cases rx; exact SeqAt.EqAt.none_bool b
    | int b => obtain ⟨t, rfl⟩ := rx; exact SeqAt.EqAt.none_int b t
    | str b => obtain ⟨t, rfl⟩ := rx; exact SeqAt.EqAt.none_str b t
    | _ => exact absurd (show false = true from fx) Bool.false_ne_true
  | bl a =>
    cases ry
    cases x with
    | non => cases rx; exact SeqAt.EqAt.bool_none a
    | bl b => cases rx; exact SeqAt.EqAt.bool_bool a b
    | int b => obtain ⟨t, rfl⟩ := rx; exact SeqAt.EqAt.bool_int a b t
    | str b => obtain ⟨t, rfl⟩ := rx; exact SeqAt.EqAt.bool_str a b t
    | _ => exact absurd (show false = true from fx) Bool.false_ne_true
  | int a =>
    obtain ⟨t', rfl⟩ := ry
    cases x with
    | non => cases rx; exact SeqAt.EqAt.int_none a t'
    | bl b => cases rx; exact SeqAt.EqAt.int_bool a t' b
    | int b => obtain ⟨t, rfl⟩ := rx; exact SeqAt.EqAt.int_int a t' b t
    | str b => obtain ⟨t, rfl⟩ := rx; exact SeqAt.EqAt.int_str a t' b t
    | _ => exact absurd (show false = true from fx) Bool.false_ne_true
  | str a =>
    obtain ⟨t', rfl⟩ := ry
    cases x with
    | non => cases rx; exact SeqAt.EqAt.str_none a t'
    | bl b => cases rx; exact SeqAt.EqAt.str_bool a t' b
    | int b => obtain ⟨t, rfl⟩ := rx; exact SeqAt.EqAt.str_int a t' b t
    | str b => obtain ⟨t, rfl⟩ := rx; exact SeqAt.EqAt.str_str a t' b t
    | _ => exact absurd (show false = true from fx) Bool.false_ne_true
  | _ => exact absurd (show false = true from fy) Bool.false_ne_true
theorem call_len_seq : CallR X (.builtin "len") (fun xs H Q => ∃ p ys, xs = [.ref p] ∧ (SqL X.K H p ys ∨ SqT X.K H p ys) ∧ Q (.int ys.length) H) := by
  intro pins s σ H xs us Q I r h
  obtain ⟨p, ys, rfl, hq, q⟩ := h
  obtain ⟨u, rfl, rx⟩ := vals1 r
  cases rx
  have hn := line63
  rcases hq with hq | hq
  · obtain ⟨its, r', pl, hz⟩ := I.list hq
    have hlen := r'.length
    exact Calls.call_len_list pl.isList (by simp only [List.size_toArray] <;> omega) ⟨.int ys.length, H, I.tok _, ⟨s.toks + 1, by rw [List.size_toArray, hlen]⟩, q⟩
  · obtain ⟨its, r', pl, hz⟩ := I.tuple hq
    have hlen := r'.length
    exact len_tuple pl (by simp only [List.size_toArray] <;> omega) ⟨.int ys.length, H, I.tok _, ⟨s.toks + 1, by rw [List.size_toArray, hlen]⟩, q⟩
theorem call_list_of : CallR X (.type "list") (fun xs H Q => ∃ p ys, xs = [.ref p] ∧ (SqL X.K H p ys ∨ SqT X.K H p ys) ∧ ∀ l, H l = none → Q (.ref l) (upd H l (.lst ys))) := by
  intro pins s σ H xs us Q I r h
  obtain ⟨p, ys, rfl, hq, q⟩ := h
  obtain ⟨u, rfl, rx⟩ := vals1 r
  cases rx
  have fin : ∀ (its : List Value), Vals ys its → ys.length ≤ sizeLine → ∀ (h' : Heap) (c' : Nat), (∀ b o', s.heap.get? b = some o' → h'.get? b = some o') →
      h'.get? s.heap.objs.size = some { cls := .type "list", dict := none, data := .seq its.toArray c', slots := #[] } → EP X pins σ Q (.ref s.heap.objs.size) { s with heap := h' } := fun its r' hz h' c' kp e =>
    ⟨.ref s.heap.objs.size, _, I.laid (t' := s.toks) kp (Nat.le_refl _) (show ObjOk X.prog X.w _ h' _ (.lst ys) from ⟨hz, its, c', r', e⟩), rfl, q _ (I.hok.fresh (Nat.le_refl _))⟩
  rcases hq with hq | hq
  · obtain ⟨its, r', pl, hz⟩ := I.list hq
    have hlen := r'.length
    obtain ⟨o, ho, hc, n, hd⟩ := pl.isList
    exact call_list_seq p (.inl rfl) ho hc hd (fun h' c' kp e => fin its r' hz h' c' kp e) (by simp only [List.size_toArray] <;> omega)
  · obtain ⟨its, r', pl, hz⟩ := I.tuple hq
    have hlen := r'.length
    obtain ⟨o, ho, hc, n, hd⟩ := pl
    exact call_list_seq p (.inr rfl) ho hc hd (fun h' c' kp e => fin its r' hz h' c' kp e) (by simp only [List.size_toArray] <;> omega)
noncomputable def tyV (K : PySem.W.Frag) (T : String) (x : V) (H : Hp) : Prop := match x with
  | .str _ => T = "str"
  | .int _ => T = "int"
  | .ref p => (T = "list" ∧ ∃ xs, SqL K H p xs) ∨ (T = "tuple" ∧ ∃ o, K.lookup p = some o ∧ o.cls = .type "tuple" ∧ o.dict = none) ∨
      (T = "dict" ∧ ((∃ kvs, H p = some (.dK kvs)) ∨ ∃ kvs, H p = some (.dT kvs))) ∨ (T = "set" ∧ ∃ S n, H p = some (.set S n))
  | _ => False
theorem tyV_is {pins : List (Addr × Obj)} {σ : St} {H : Hp} {s : Shared} {T : String} {x : V} {v : Value} (I : Inv X pins σ H s) (r : RelV x v) (ty : tyV X.K T x H) :
    s.TypeIs v T ∧ ∀ a, v = .ref a → ∃ ob, s.heap.get? a = some ob ∧ ob.dict = none := by
  cases x with
  | str z =>
    obtain ⟨t, rfl⟩ := r
    cases (show T = "str" from ty)
    exact ⟨typeIs_str s z t, fun _ e => nomatch e⟩
  | int i =>
    obtain ⟨t, rfl⟩ := r
    cases (show T = "int" from ty)
    exact ⟨typeIs_int s i t, fun _ e => nomatch e⟩
  | ref p =>
    cases r
    rcases ty with ⟨rfl, xs, hq⟩ | ⟨rfl, o, hk, hc, hd⟩ | ⟨rfl, hk⟩ | ⟨rfl, S, n, hk⟩
    · obtain ⟨its, _, pl, _⟩ := I.list hq
      refine ⟨pl.isList.typeIs, fun a e => ?_⟩
      cases e
      obtain ⟨o, n, e, c, hd, _⟩ := pl
      exact ⟨o, e, hd⟩
    · refine ⟨⟨o, I.kIn p o hk, hc⟩, fun a e => ?_⟩
      cases e
      exact ⟨o, I.kIn _ o hk, hd⟩
    · have z : ∃ o, s.heap.get? p = some o ∧ o.ExactDict := by
        rcases hk with ⟨kvs, hk⟩ | ⟨kvs, hk⟩
        · obtain ⟨_, _, _, _, o, _, _, e, ex, _⟩ := I.hok p _ hk
          exact ⟨o, e, ex⟩
        · obtain ⟨_, _, _, _, o, _, _, e, ex, _⟩ := I.hok p _ hk
          exact ⟨o, e, ex⟩
      obtain ⟨o, e, ex⟩ := z
      refine ⟨⟨o, e, ex.1⟩, fun a e2 => ?_⟩
      cases e2
      exact ⟨o, e, ex.2.1⟩
    · obtain ⟨o, _, _, _, e, ex, _⟩ := I.hok p _ hk
      refine ⟨⟨o, e, ex.1⟩, fun a e2 => ?_⟩
      cases e2
      exact ⟨o, e, ex.2.1⟩
  | _ => exact False.elim ty
noncomputable def tBM0 (K : PySem.W.Frag) (T : String) (r : V → List V → Hp → VK → Prop) (to : TE) : TE := fun σ H Q => to σ H fun x H1 => tyV K T x H1 ∧ r x [] H1 Q
noncomputable def tBM (K : PySem.W.Frag) (T : String) (r : V → List V → Hp → VK → Prop) (to : TE) (t : TA) : TE := fun σ H Q => to σ H fun x H1 => tyV K T x H1 ∧ t σ H1 fun xs H2 => r x xs H2 Q
variable {o e : Expr} {es : List Expr} {to : TE} {t : TA} {name : Str} {apos cpos : Pos} {T id : String} {r : V → List V → Hp → VK → Prop}
theorem pe_bm0 (pa : PlainAttrs T) (slot : Slot T name id) (hty : typeOf (.builtin id) = pure (.type "method_descriptor")) (hm : MtR X id r) (ho : PE X o to)
    (hbase : attributeBase o name X.env (eval o X.env) = eval o X.env := by rfl) (hline : (apos.endLine == cpos.line) = true := by rfl) : PE X (.Call (.Attribute o name apos) [] [] cpos) (tBM0 X.K T r to) := by
  intro pins s σ H Q I h
  refine wpAny_Call_method0_late hbase hline (thn (ho pins s σ H _ I h) fun v s1 ⟨x, H1, I1, r1, ty, q1⟩ => ?_)
  obtain ⟨h1, h2⟩ := tyV_is I1 r1 ty
  exact ⟨T, id, pa, slot, hty, h1, h2, Calls.callWith_builtin rfl (PySem.evalArgs_none (hm pins s1 σ H1 x [] v [] Q I1 r1 .nil q1))⟩
theorem pe_bm (pa : PlainAttrs T) (slot : Slot T name id) (hty : typeOf (.builtin id) = pure (.type "method_descriptor")) (hm : MtR X id r) (ho : PE X o to) (ha : PA X (e :: es) t)
    (hbase : attributeBase o name X.env (eval o X.env) = eval o X.env := by rfl)
    (hfew : ((backTo cpos (starEach (e :: es) X.env)).all (fun x => !x.1) && (backToKw cpos (keywordEach [] X.env)).all (fun x => x.1.isSome)
      && decide ((e :: es).length + ([] : List Keyword).length + (if ([] : List Keyword).isEmpty then 0 else 1) < 30)) = true := by rfl)
    (hline : (apos.endLine == cpos.line) = true := by rfl) (hs : starEach (e :: es) X.env = (false, eval e X.env) :: starEach es X.env := by rfl) (hplain : (backTo cpos (starEach es X.env)).any (·.1) = false := by rfl) :
    PE X (.Call (.Attribute o name apos) (e :: es) [] cpos) (tBM X.K T r to t) := by
  intro pins s σ H Q I h
  refine wpAny_Call_method_late hbase hfew hline rfl (thn (ho pins s σ H _ I h) fun v s1 ⟨x, H1, I1, r1, ty, q1⟩ => ?_)
  obtain ⟨h1, h2⟩ := tyV_is I1 r1 ty
  refine ⟨T, id, pa, slot, hty, h1, h2, ?_⟩
  have hA := ha cpos pins s1 σ H1 _ I1 q1
  rw [hs] at hA ⊢
  refine Calls.callWith_builtin (by show (false || (backTo cpos (starEach es X.env)).any (·.1)) = false; rw [hplain] <;> rfl) (Calls.evalArgs_plain ?_)
  exact thn hA fun us s2 ⟨vs, H2, I2, r2, q2⟩ => hm pins s2 σ H2 x vs v us Q I2 r1 r2 q2
end
end L2
namespace L2
open PySem PySem.Spec PyProof.Rows
noncomputable def MtM (X : Cx) (id : String) (r : V → List V → Hp → VK → Prop) : Prop :=
  ∀ (pins : List (Addr × Obj)) (s : Shared) (σ : St) (H : Hp) (x : V) (xs : List V) (v : Value) (us : List Value) (Q : VK), Inv X pins σ H s → RelV x v → Vals xs us → r x xs H Q →
    wpAny (model X.prog X.w) X.A (call (.builtin id) (v :: us)) (EP X pins σ Q) X.xe s
theorem Vals.one : ∀ {x : V} {us : List Value}, Vals [x] us → ∃ u, us = [u] ∧ RelV x u
  | _, _, .cons r .nil => ⟨_, rfl, r⟩
theorem Vals.zero : ∀ {us : List Value}, Vals [] us → us = []
  | _, .nil => rfl
theorem Vals.dropLast {xs : List V} {us : List Value} (h : Vals xs us) : Vals xs.dropLast us.dropLast := by
  induction h with
  | nil => exact .nil
  | cons r t ih =>
    cases t with
    | nil => exact .nil
    | cons q t' => exact .cons r ih
theorem Vals.eraseIdx : ∀ {xs : List V} {us : List Value} (i : Nat), Vals xs us → Vals (xs.eraseIdx i) (us.eraseIdx i)
  | _, _, _, .nil => .nil
  | _, _, 0, .cons _ t => t
  | _, _, i + 1, .cons r t => .cons r (Vals.eraseIdx i t)
theorem erase_last {α : Type} (l : List α) : l.eraseIdx (l.length - 1) = l.dropLast := by
  induction l with
  | nil => rfl
  | cons a r ih =>
    cases r with
    | nil => rfl
    | cons b r =>
      have e : (a :: b :: r).length - 1 = ((b :: r).length - 1) + 1 := by
        have h1 : (a :: b :: r).length = r.length + 2 := rfl
        have h2 : (b :: r).length = r.length + 1 := rfl
        omega
      rw [e, List.eraseIdx_cons_succ, ih]
      all_goals rfl
theorem len_erase {α : Type} : ∀ (l : List α) (i : Nat), (l.eraseIdx i).length ≤ l.length
  | [], _ => Nat.le_refl _
  | _ :: _, 0 => Nat.le_succ _
  | _ :: r, i + 1 => Nat.succ_le_succ (len_erase r i)
section
variable {X : Cx} {pins : List (Addr × Obj)} {σ : St} {H : Hp} {s : Shared} {l b : Addr} {xs ys zs : List V}
theorem Inv.lset {its its' : List Value} {n : Nat} {f : Array Value → Array Value} {t' : Nat} (I : Inv X pins σ H s) (hH : H l = some (.lst xs))
    (e : s.heap.get? l = some { cls := .type "list", data := .seq its.toArray n }) (hf : f its.toArray = its'.toArray) (hv : Vals ys its') (hz : ys.length ≤ sizeLine) :
    Inv X pins σ (upd H l (.lst ys)) { s with heap := s.heap.update l (Obj.mapSeq f), toks := t' } := by
  have q := PySem.IsL.update e f
  rw [hf] at q
  refine I.write (x := l) (e := l) (by rw [hH]; exact trivial) (.inl rfl) (fun b' u hb hu => (Heap.get?_update_other s.heap (Obj.mapSeq f) (Ne.symm hb)).trans hu) ⟨_, q⟩ ?_
  exact ⟨hz, its', _, hv, q⟩
theorem Inv.lnew {its : List Value} {t' : Nat} (I : Inv X pins σ H s) (hv : Vals ys its) (hz : ys.length ≤ sizeLine) :
    Inv X pins σ (upd H s.heap.objs.size (.lst ys)) { s with heap := s.heap.push { cls := .type "list", data := .seq its.toArray }, toks := t' } :=
  I.laid (fun _ _ q => Heap.get?_push_of_some _ q) (Nat.le_refl _) ⟨hz, its, 0, hv, Heap.get?_push_size _ rfl⟩
theorem Inv.fresh (I : Inv X pins σ H s) : H s.heap.objs.size = none := I.hok.fresh (Nat.le_refl _)
theorem Inv.lstM (I : Inv X pins σ H s) (hH : H l = some (.lst xs)) : xs.length ≤ sizeLine ∧ ∃ (its : List Value) (n : Nat), Vals xs its ∧ xs.length = its.length ∧ s.heap.get? l = some { cls := .type "list", data := .seq its.toArray n } := by
  obtain ⟨z, its, n, r, e⟩ := I.hok l _ hH
  exact ⟨z, its, n, r, r.length, e⟩
theorem notLongL {n : Nat} (h : n ≤ sizeLine) : Builtin.List.listTooLong n = false := by
  unfold Builtin.List.listTooLong
  exact decide_eq_false (by omega)
end
section
variable {X : Cx}
noncomputable def rAppend : V → List V → Hp → VK → Prop := fun x vs H Q => ∃ l xs y, x = .ref l ∧ vs = [y] ∧ H l = some (.lst xs) ∧ xs.length < sizeLine ∧ Q .non (upd H l (.lst (xs ++ [y])))
theorem mt_append : MtM X "list.append" rAppend := by
  intro pins s σ H x vs v us Q I rx rv h
  obtain ⟨l, xs, y, rfl, rfl, hH, hz, q⟩ := h
  cases rx
  obtain ⟨u, rfl, ru⟩ := rv.one
  obtain ⟨z, its, n, r, hl, e⟩ := I.lstM hH
  refine call_meets F.slot_list_append ⟨_, e, rfl⟩ F.entry_list_append (F.args_list_append_2 _ _) (PySem.list_append l its.toArray n u (by rw [List.size_toArray]; omega)) ⟨e, ?_⟩
  refine ⟨.non, _, I.lset (its' := its ++ [u]) hH e (by simp) (r.append (.cons ru .nil)) ?_, rfl, q⟩
  rw [List.length_append, List.length_singleton]
  omega
noncomputable def rExtend : V → List V → Hp → VK → Prop := fun x vs H Q => ∃ l b xs zs, x = .ref l ∧ vs = [.ref b] ∧ H l = some (.lst xs) ∧ H b = some (.lst zs) ∧ xs.length + zs.length ≤ sizeLine ∧ Q .non (upd H l (.lst (xs ++ zs)))
theorem mt_extend : MtM X "list.extend" rExtend := by
  intro pins s σ H x vs v us Q I rx rv h
  obtain ⟨l, b, xs, zs, rfl, rfl, hH, hB, hz, q⟩ := h
  cases rx
  obtain ⟨u, rfl, ru⟩ := rv.one
  cases ru
  obtain ⟨z, its, n, r, hl, e⟩ := I.lstM hH
  obtain ⟨z2, its2, n2, r2, hl2, e2⟩ := I.lstM hB
  have hsz : its.toArray.size + its2.toArray.size ≤ sizeLine := by rw [List.size_toArray, List.size_toArray]; omega
  have hlong : ¬ (!its.toArray.isEmpty && Builtin.List.listTooLong (its.toArray.size + its2.toArray.size)) = true := by
    rw [notLongL hsz, Bool.and_false]
    exact Bool.false_ne_true
  refine call_meets F.slot_list_extend ⟨_, e, rfl⟩ F.entry_list_extend (F.args_list_extend_2 _ _)
    (AutoSeq1.list_extend_list_list_0 l its.toArray n b its2.toArray n2 hlong (by rw [List.size_toArray]; omega) (by omega)) ⟨e, e2, ?_⟩
  refine ⟨.non, _, I.lset (its' := its ++ its2) hH e (by simp) (r.append r2) ?_, rfl, q⟩
  rw [List.length_append]
  omega
noncomputable def rPop : V → List V → Hp → VK → Prop := fun x vs H Q => ∃ l xs y, x = .ref l ∧ vs = [] ∧ H l = some (.lst xs) ∧ xs[xs.length - 1]? = some y ∧ Q y (upd H l (.lst xs.dropLast))
theorem mt_pop : MtM X "list.pop" rPop := by
  intro pins s σ H x vs v us Q I rx rv h
  obtain ⟨l, xs, y, rfl, rfl, hH, hy, q⟩ := h
  cases rx
  have hus := rv.zero
  subst hus
  obtain ⟨z, its, n, r, hl, e⟩ := I.lstM hH
  obtain ⟨u, hu, ru⟩ := r.get hy
  have hy' : its.toArray[its.toArray.size - 1]? = some u := by
    show its.toArray[its.length - 1]? = some u
    rw [← Array.getElem?_toList, ← hl]
    exact hu
  refine call_meets F.slot_list_pop ⟨_, e, rfl⟩ F.entry_list_pop (F.args_list_pop_1 _) (MeetsSeq.list_pop_last l its.toArray n u hy' (by rw [List.size_toArray]; omega)) ⟨e, ?_⟩
  refine ⟨y, _, I.lset (its' := its.dropLast) hH e ?_ r.dropLast ?_, ru, q⟩
  · show its.toArray.eraseIdxIfInBounds (its.toArray.size - 1) = its.dropLast.toArray
    rw [List.size_toArray, List.eraseIdxIfInBounds_toArray, erase_last]
  · rw [List.length_dropLast]
    omega
noncomputable def rPopAt : V → List V → Hp → VK → Prop := fun x vs H Q => ∃ l xs i k y, x = .ref l ∧ vs = [.int i] ∧ H l = some (.lst xs) ∧ -(2 ^ 63) ≤ i ∧ i < 2 ^ 63 ∧ seqIndex? i xs.length = some k ∧ xs[k]? = some y ∧ Q y (upd H l (.lst (xs.eraseIdx k)))
theorem mt_popAt : MtM X "list.pop" rPopAt := by
  intro pins s σ H x vs v us Q I rx rv h
  obtain ⟨l, xs, i, k, y, rfl, rfl, hH, h1, h2, hk, hy, q⟩ := h
  cases rx
  obtain ⟨u, rfl, ru⟩ := rv.one
  obtain ⟨t, rfl⟩ := ru
  obtain ⟨z, its, n, r, hl, e⟩ := I.lstM hH
  obtain ⟨w, hw, rw'⟩ := r.get hy
  refine call_meets F.slot_list_pop ⟨_, e, rfl⟩ F.entry_list_pop (F.args_list_pop_2 _ _)
    (MeetsSeq.list_pop_at l its.toArray n i t k w (fitsIndex_both h1 h2) (by rw [List.size_toArray, ← hl]; exact hk) (by rw [← Array.getElem?_toList]; exact hw) (by rw [List.size_toArray]; omega)) ⟨e, ?_⟩
  refine ⟨y, _, I.lset (its' := its.eraseIdx k) hH e ?_ (r.eraseIdx k) ?_, rw', q⟩
  · show its.toArray.eraseIdxIfInBounds k = (its.eraseIdx k).toArray
    rw [List.eraseIdxIfInBounds_toArray]
  · have := len_erase xs k
    omega
noncomputable def rCat : R2 := fun x y H Q => ∃ l b xs zs, x = .ref l ∧ y = .ref b ∧ H l = some (.lst xs) ∧ H b = some (.lst zs) ∧ xs.length + zs.length ≤ sizeLine ∧ ∀ p, H p = none → Q (.ref p) (upd H p (.lst (xs ++ zs)))
theorem op_cat : OpR X (binaryOp .Add) rCat := by
  intro pins s σ H x y v u Q I rx ry h
  obtain ⟨l, b, xs, zs, rfl, rfl, hH, hB, hz, q⟩ := h
  cases rx
  cases ry
  obtain ⟨z, its, n, r, hl, e⟩ := I.lstM hH
  obtain ⟨z2, its2, n2, r2, hl2, e2⟩ := I.lstM hB
  refine PySem.P.add_list e e2 ?_ (by rw [List.size_toArray, List.size_toArray]; omega)
  have ea : its.toArray ++ its2.toArray = (its ++ its2).toArray := by simp
  rw [ea]
  exact ⟨.ref _, _, I.lnew (t' := s.toks) (r.append r2) (by rw [List.length_append]; omega), rfl, q _ I.fresh⟩
end
section
variable {prog : Program} {w : World} {A : Around} {E : Value → Shared → Prop} {s : Shared}
set_option maxRecDepth 100000 in
end
section
variable {X : Cx}
end
end L2
namespace Att
open PySem PySem.W PySem.Calls PyProof.Rows
theorem ints_of_wellAll {P : Params} {h : Heap} : ∀ (ns : List Int) (vs : List Value), WellAll P h vs (ns.map WData.int) → IntsAre vs ns := by
  intro ns
  induction ns with
  | nil =>
    intro vs w
    rw [List.map_nil] at w
    cases w
    exact .nil
  | cons n ns ih =>
    intro vs w
    rw [List.map_cons] at w
    cases w with
    | cons a b =>
      cases a
      exact .cons _ _ (ih _ b)
theorem script_of {l : OpenLaw} {n : Nat} (hn : l.most = some n) {P : Params} {h : Heap} {args : List WData} {vals : List Value}
    (hpre : l.row.toRowW.claim.pre args = true) (hwl : WellAll P h vals args) :
    ∃ a vs ns, vals = [Value.ref a] ∧ args = [WData.list (ns.map WData.int)] ∧ h.get? a = some { cls := .type "list", data := .seq vs.toArray } ∧ IntsAre vs ns ∧ ns.length ≤ n := by
  have hsh : WShape.hasAll [] args [.list .int] = true := (pre_splitW hpre).1
  have hc : l.pre.holds [] { args := args } = true := (pre_splitW hpre).2
  obtain ⟨d, r, rfl, h1, h2⟩ := hasAllW_cons hsh
  obtain rfl := hasAllW_nil h2
  obtain ⟨xs, rfl, h3⟩ := hasW_list h1
  obtain ⟨ns, rfl⟩ := items_int h3
  have hlen : ns.length ≤ n := by
    unfold OpenLaw.pre at hc
    have h4 : (WTm.not (.lt (.lit (.int (n : Int))) (.len (.arg 0)))).holds [] { args := [.list (ns.map .int)] } = true := by
      have h4 := (holds_andW hc).1
      rw [hn] at h4
      exact h4
    have h5 := condW_of h4 (w_not (w_lt w_lit (w_len_list (w_arg rfl))))
    rw [List.length_map] at h5
    refine Nat.le_of_not_lt fun q => ?_
    have q' : (n : Int) < ((ns.length : Nat) : Int) := by omega
    first
      | (rw [decide_eq_true q'] at h5; exact absurd h5 (by decide))
      | (simp at h5; omega)
  cases hwl with
  | cons w1 w2 =>
    cases w2
    cases w1 with
    | list ho hall => exact ⟨_, _, ns, rfl, rfl, ho, ints_of_wellAll ns _ hall, hlen⟩
theorem post_true (l : OpenLaw) (args : List WData) : l.row.toRowW.claim.post args (.bool true) args = true :=
  postW_of (r := l.row.toRowW) (X := (true == true))
    (show WShape.has [] (.bool true) .bool = true by first | rfl | decide | simp [WShape.has, WShape.arms, WShape.armsAll])
    (show (WTm.eq .res (.lit (.bool true))).value [] { args := args, res := some (.bool true), after := args } = some (.bool (true == true)) from w_eq_bool (w_res rfl) w_lit) rfl
theorem attach_call {l : OpenLaw} {n : Nat} {q : Program} {loose : List Str} {XP : (Str → Option Value) → Heap → Prop} {YP : World → Heap → Prop} {d : DefRec}
    (hn : l.most = some n) (hdf : d.params.defaults = [])
    (call : ∀ (w : World) (s₀ s₁ : Shared) (mg mb : Str → Option Value) (fa : Addr) (o : Obj) (pm cd doc : Value) (a : Addr) (vs : List Value) (ns : List Int),
      Ground q loose [] XP w s₀ mg mb s₁.heap → YP w s₁.heap →
      s₁.heap.get? fa = some o → o.data = .func (docDef d.name d.params d.body d.scope pm cd doc) → s₁.heap.CodeRec cd d.name → mg d.name = some (.ref fa) →
      s₁.heap.get? a = some { cls := .type "list", data := .seq vs.toArray } → IntsAre vs ns → ns.length ≤ n → s₁.gens = #[] →
      codeAny (model l.prog w) callerA (.call (.ref fa) ⟨[.ref a], []⟩) (fun r s' => r = .ok (.ret (.bool true)) ∧ OldK s₁.heap s'.heap ∧ s'.os = s₁.os ∧ AllBare s'.gens) s₁) :
    WalkO q loose XP YP l.row.toRowW d [] (fun f vs => PySem.call f vs) := by
  intro w s₀ s₁ mg mb G Y fa o pm cd doc dV kV ho hd hcd hD hmg hg args vals as hpre hlay hrd hwl hlo
  obtain rfl : dV = .none := Dflts.none hD hdf
  obtain rfl : kV = .none := Dflts.noKw hD
  obtain ⟨a, vs, ns, rfl, rfl, hobj, hints, hlen⟩ := script_of hn hpre hwl
  refine enter_call (codeAny_mono (call w s₀ s₁ mg mb fa o pm cd doc a vs ns G Y ho (fd_plain hd) hcd hmg hobj hints hlen hg) fun r s' hq => ?_)
  obtain ⟨rfl, h2, h3, h4⟩ := hq
  exact ⟨.inl ⟨.bool true, .bool true, [], rfl, fun _ => rfl, .bool true, post_true l _, fun _ => ⟨List.Pairwise.nil, fun _ hm => (nomatch hm)⟩⟩, h2, h3, h4⟩
section
variable {prog : Program} {w : World} {A : Around} {E : Value → Shared → Prop} {s : Shared} {K : Frag}
noncomputable def ledger (h : Heap) (L d : Addr) : List (Addr × Obj) := (List.range h.objs.size).filterMap fun a => if a = L ∨ a = d then none else (h.get? a).map fun o => (a, o)
end
end Att
namespace L2
open PySem PySem.Spec PyProof.Rows
theorem vals_ints : ∀ {vs : List Value} {ns : List Int}, IntsAre vs ns → Vals (ns.map V.int) vs
  | _, _, .nil => .nil
  | _, _, .cons n t h => .cons ⟨t, rfl⟩ (vals_ints h)
noncomputable def Only (H : Hp) : Prop := ∀ b, H b = none ∨ ∃ o xs, H b = some (.frz o (.lst xs))
theorem law_call {P : Program} {w : World} {K : PySem.W.Frag} {mg mb : Str → Option Value} {CX : CXT} {k : Nat} {fa a : Addr} {fd : FuncData} {x : Str} {sp : Sp} {s₁ : Shared} {vs : List Value} {ns : List Int}
    (KX : K.In s₁.heap) (hns : s₁.heap.Ns mainGlobals mg) (hb : s₁.heap.Ns builtinsNs mb) (hbb : ∀ x : Str, x ≠ "__name__" → mb x = bootBuiltins x) (hlim : s₁.heap.NoLimit) (hg : s₁.gens = #[])
    (ha : s₁.heap.get? a = some { cls := .type "list", data := .seq vs.toArray }) (hi : IntsAre vs ns) (hl : ns.length ≤ sizeLine) (hr : Room k callerA)
    (F : ∀ base : Heap, K.In base → base.Ns mainGlobals mg → FnOk P w K mg base CX k fa fd [x] sp) (hbind : ∀ (s : Shared) (u : Value), BindsTo s fd ⟨[u], []⟩ [(x, u)])
    (hsp : ∀ H : Hp, Only H → SqL K H a (ns.map V.int) → sp [.ref a] H (fun v _ => v = .bl true) fun _ _ _ => False)
    (hCX : ∀ H e s', CX [] H s₁ (fun _ _ _ => False) e s' → False) :
    codeAny (model P w) callerA (.call (.ref fa) ⟨[.ref a], []⟩) (fun r s' => r = .ok (.ret (.bool true)) ∧ OldK s₁.heap s'.heap ∧ s'.os = s₁.os ∧ AllBare s'.gens) s₁ := by
  have rv := vals_ints hi
  have lenV := hi.length
  -- from an abstract heap in which nothing but the script may be tracked
  have core : ∀ H : Hp, Only H → SqL K H a (ns.map V.int) → HOk P w H s₁.heap → (∀ b, H b ≠ none → b = a) → (H a ≠ none → K.lookup a = none) →
      codeAny (model P w) callerA (.call (.ref fa) ⟨[.ref a], []⟩) (fun r s' => r = .ok (.ret (.bool true)) ∧ OldK s₁.heap s'.heap ∧ s'.os = s₁.os ∧ AllBare s'.gens) s₁ := by
    intro H hO hS hok hA hK
    have base_of : ∀ {b : Addr} {o : Obj}, s₁.heap.get? b = some o → H b = none → (hidT s₁.heap H).get? b = some o := fun e n => hidT_get e n
    have noA : ∀ {b : Addr} {o : Obj} {es : Array DictEntry} {ep : Nat}, s₁.heap.get? b = some o → o.data = .dict es ep → H b = none := fun {b o es ep} e d => by
      cases q : H b with
      | none => rfl
      | some u =>
        have e' : b = a := hA b (by rw [q]; simp)
        subst e'
        rw [ha] at e; cases e
        have d' : Data.seq vs.toArray _ = Data.dict es ep := d
        cases d'
    have nsK : ∀ {b : Addr} {m : Str → Option Value}, s₁.heap.Ns b m → (hidT s₁.heap H).Ns b m := fun {b m} ⟨o, es, ep, e, d, r⟩ => ⟨o, es, ep, base_of e (noA e d), d, r⟩
    have hKb : K.In (hidT s₁.heap H) := fun b o e => base_of (KX b o e) (by
      cases q : H b with
      | none => rfl
      | some u =>
        have e' : b = a := hA b (by rw [q]; simp)
        subst e'
        rw [hK (by rw [q]; simp)] at e; cases e)
    have hM : Mod K mg (hidT s₁.heap H) := ⟨hKb, nsK hns, ⟨mb, nsK hb, hbb⟩, let ⟨mc, h1, h2⟩ := hlim; ⟨mc, nsK h1, h2⟩⟩
    have e0 : Env0 P w K mg (hidT s₁.heap H) callerA [] s₁ H := ⟨rfl, hM, fun b o e => of_hidT e, Nat.le_of_eq (hidT_size _ _), trivial, fun b hb => absurd (show b ∈ ([] : List Addr) from hb) (by simp), hok, .of_eq hg⟩
    refine codeAny_mono ((F _ hKb (nsK hns)).run callerA [] s₁ H ⟨[.ref a], []⟩ [.ref a] [.ref a] _ _ hr e0 (hbind s₁ (.ref a)) (.cons rfl .nil) (hsp H hO hS)) fun r s' h => ?_
    cases r with
    | error e => exact (hCX H e s' h).elim
    | ok fl =>
      cases fl with
      | next => exact False.elim h
      | brk => exact False.elim h
      | cont => exact False.elim h
      | ret u =>
        obtain ⟨v, H', os, bare, un, hok', r', q⟩ := h
        have q' : v = .bl true := q
        subst q'
        obtain rfl : u = Value.bool true := r'
        refine ⟨rfl, OldK.of_keep fun b o e => ?_, os, bare⟩
        cases q : H b with
        | none => exact un.keep b o e q (by intro z; exact absurd (show b ∈ ([] : List Addr) from z) (by simp)) (by simp)
        | some u =>
          rcases hO b with z | ⟨ob, xs, z⟩
          · rw [q] at z; cases z
          · have z2 := un.frzs b ob _ z
            obtain ⟨e1, _⟩ := hok b _ z
            obtain ⟨e2, _⟩ := hok' b _ z2
            rw [e] at e1; cases e1
            exact e2
  cases hk : K.lookup a with
  | some o =>
    -- the script is one of the module's own objects
    have e := KX a o hk
    rw [ha] at e
    cases e
    refine core (fun _ => none) (fun _ => .inl rfl) (.inr ⟨_, vs.toArray, _, hk, rfl, rfl, rfl, by rw [List.size_toArray, lenV]; exact hl, by simpa using rv⟩) (fun b u z => by have z' : (none : Option HO) = some u := z; cases z') (fun b z => absurd rfl z) fun z => absurd rfl z
  | none =>
    refine core (fun b => if b = a then some (.frz { cls := .type "list", data := .seq vs.toArray } (.lst (ns.map V.int))) else none) (fun b => ?_) (.inl (.inr ⟨{ cls := .type "list", data := .seq vs.toArray }, if_pos rfl⟩)) (fun b u z => ?_) (fun b z => ?_) fun _ => hk
    · by_cases hb : b = a
      · exact .inr ⟨_, _, if_pos hb⟩
      · exact .inl (if_neg hb)
    · by_cases hb : b = a
      · have z' := (if_pos hb).symm.trans z
        cases z'
        subst hb
        exact ⟨ha, by rw [List.length_map]; exact hl, vs, _, rv, ha⟩
      · have z' := (if_neg hb).symm.trans z
        cases z'
    · by_cases hb : b = a
      · exact hb
      · exact absurd (if_neg hb) z
end L2
namespace L2
open PySem PySem.Spec PyProof.Rows
noncomputable abbrev KOf {K : PySem.W.Frag} {h : Heap} (_ : K.In h) : PySem.W.Frag := K
theorem walk_of {l : PySem.W.OpenLaw} {n k : Nat} {q : Program} {loose : List Str} {XP : (Str → Option Value) → Heap → Prop} {YP : World → Heap → Prop} {d : DefRec} {K : Params → PySem.W.Frag} {CX : World → CXT} {sp : World → Sp} {x : Str}
    (hn : l.most = some n) (hn2 : n ≤ sizeLine) (hdf : d.params.defaults = []) (hr : Room k callerA)
    (hY : ∀ (w : World) (h : Heap), YP w h → (K w.params).In h)
    (F : ∀ (w : World) (mg : Str → Option Value) (fa : Addr) (h : Heap), (K w.params).In h → h.Ns mainGlobals mg → mg d.name = some (.ref fa) →
      ∃ fd : FuncData, (∀ (s : Shared) (u : Value), BindsTo s fd ⟨[u], []⟩ [(x, u)]) ∧
        ∀ base : Heap, (K w.params).In base → base.Ns mainGlobals mg → FnOk l.prog w (K w.params) mg base (CX w) k fa fd [x] (sp w))
    (hsp : ∀ (w : World) (H : Hp) (a : Addr) (ns : List Int), ns.length ≤ n → Only H → SqL (K w.params) H a (ns.map V.int) → sp w [.ref a] H (fun v _ => v = .bl true) fun _ _ _ => False)
    (hCX : ∀ (w : World) (H : Hp) (s : Shared) (e : Value) (s' : Shared), CX w [] H s (fun _ _ _ => False) e s' → False) :
    PySem.W.WalkO q loose XP YP l.row.toRowW d [] (fun f vs => PySem.call f vs) := by
  refine Att.attach_call hn hdf fun w s₀ s₁ mg mb fa o pm cd doc a vs ns G Y ho hd hcd hmg hobj hints hlen hg => ?_
  have KX := hY w _ Y
  obtain ⟨fd, hb, hF⟩ := F w mg fa _ KX G.T.g hmg
  exact law_call KX G.T.g G.T.b G.T.builtins G.T.nolimit hg hobj hints (Nat.le_trans hlen hn2) hr hF hb (fun H hO hS => hsp w H a ns hlen hO hS) fun H e s' => hCX w H s₁ e s'
end L2
namespace L2
open PySem PySem.Spec PyProof.Rows
noncomputable def inClass (s : Stmt) (j : Nat) : Stmt := match s with
  | .ClassDef _ _ _ body _ _ _ _ _ _ _ => body.getD j (.Pass ⟨0, 0, 0, 0⟩)
  | _ => .Pass ⟨0, 0, 0, 0⟩
noncomputable def defArgs (s : Stmt) : Arguments := match s with
  | .FunctionDef _ a _ _ _ _ _ _ _ _ => a
  | _ => { posonlyargs := [], args := [], vararg := none, kwonlyargs := [], kw_defaults := [], kwarg := none, defaults := [] }
noncomputable def defBody (s : Stmt) : List Stmt := match s with
  | .FunctionDef _ _ b _ _ _ _ _ _ _ => b
  | _ => []
noncomputable def defScope (s : Stmt) : Scope := match s with
  | .FunctionDef _ _ _ _ _ _ sc _ _ _ => sc
  | _ => { kind := .function, names := [], isGenerator := false, isCoroutine := false }
noncomputable abbrev CX0 : CXT := fun _ _ _ _ _ _ => False
noncomputable abbrev E0 : XK := fun _ _ _ => False
structure Fun (K : PySem.W.Frag) (x qual : Str) (st : Stmt) (f : Addr) (fd : FuncData) : Prop where
  ex : ∃ (oc : Value) (od : Option Addr) (kV doc pm : Value) (an : Option Addr) (cdv ct : Value) (osl : Array (Option Value)),
    fd = PySem.W.fnOf x qual (defArgs st) (defBody st) (defScope st) .none kV doc pm an cdv ct ∧ K.lookup f = some ⟨oc, od, .func fd, osl⟩ ∧ PySem.W.codeIn K cdv qual = true
  kp : PySem.W.keepIn K (.ref f) = true
section
variable {P : Program} {w : World} {K : PySem.W.Frag} {mg : Str → Option Value} {base : Heap}
theorem Fun.ok {x qual : Str} {st : Stmt} {f : Addr} {fd : FuncData} {N ps : List Str} {k : Nat} {sp : Sp} (F : Fun K x qual st f fd) (S : FnScope N ps (defScope st)) (len : ∀ vs H Q E, sp vs H Q E → vs.length = ps.length)
    (hbody : ∀ (cdv : Value) (A : Around) (outer : List Env) (s : Shared) (H : Hp) (vs : List V) (Q : VK) (E : XK), Room k (A.deeper (envOfC qual (defScope st) s.heap.objs.size f cdv)) → sp vs H Q E →
      ∃ t, PSs (cxOf CX0 P w K mg base N qual (defScope st) f cdv A outer s H E).nox (defBody st) t ∧ t { nx := fun _ H' => Q .non H', rt := Q } (start N vs) H) : FnOk P w K mg base CX0 (k + 1) f fd ps sp := by
  obtain ⟨oc, od, kV, doc, pm, an, cdv, ct, osl, rfl, lk, hcd⟩ := F.ex
  refine fn_of lk hcd S len fun A outer s H vs Q E hr hsp => ?_
  obtain ⟨t, h, q⟩ := hbody cdv A outer s H vs Q E hr hsp
  exact ⟨t, h.nox, q⟩
theorem Fun.binds {x qual : Str} {st : Stmt} {f : Addr} {fd : FuncData} {ps : List Str} (F : Fun K x qual st f fd)
    (h : ∀ (kV doc pm : Value) (an : Option Addr) (cdv ct : Value) (us : List Value), us.length = ps.length → bindArgs (PySem.W.fnOf x qual (defArgs st) (defBody st) (defScope st) .none kV doc pm an cdv ct) ⟨us, []⟩ = pure (ps.zip us)) : Binds K fd ps [] := by
  obtain ⟨oc, od, kV, doc, pm, an, cdv, ct, osl, rfl, lk, hcd⟩ := F.ex
  exact .all (h kV doc pm an cdv ct)
theorem fun_mk {x qual : Str} {st : Stmt} {f : Addr} {oc : Value} {od an : Option Addr} {osl : Array (Option Value)} {kV doc pm cdv ct : Value} (l : K.lookup f = some ⟨oc, od, .func (PySem.W.fnOf x qual (defArgs st) (defBody st) (defScope st) .none kV doc pm an cdv ct), osl⟩)
    (c : PySem.W.codeIn K cdv qual = true) (k : PySem.W.keepIn K (.ref f) = true) : Fun K x qual st f (PySem.W.fnOf x qual (defArgs st) (defBody st) (defScope st) .none kV doc pm an cdv ct) := ⟨⟨oc, od, kV, doc, pm, an, cdv, ct, osl, rfl, l, c⟩, k⟩
end
theorem hu_of {A : Around} {k : Nat} (hr : Room k A) : A.units + 1 < cLine := Nat.lt_of_le_of_lt (Nat.add_le_add_left (by decide : 1 ≤ 64) _) hr.units
section
variable {X : Cx}
theorem pv (i : Nat) {x : Str} {pos : Pos} (hN : X.N[i]? = some x := by rfl) (hv : Vis X.env.scope x := by first | exact Or.inl rfl | exact Or.inr (Or.inl rfl) | exact Or.inr (Or.inr rfl)) (hd : (x == ("__debug__" : Str)) = false := by decide)
    (hcd : (x == ("__classdict__" : Str)) = false := by decide) : PE X (.Name x pos) (tVar i) := pe_var hN hv hd hcd
end
theorem iteF {A B : Prop} (h : B) : if false = true then A else B := by
  rw [if_neg Bool.false_ne_true]
  exact h
theorem iteT {A B : Prop} (h : A) : if true = true then A else B := by
  rw [if_pos rfl]
  exact h
theorem ite2 {c A B : Prop} [Decidable c] (h1 : c → A) (h2 : ¬ c → B) : if c then A else B := by
  by_cases h : c
  · rw [if_pos h]
    exact h1 h
  · rw [if_neg h]
    exact h2 h
theorem iteNS {c A B : Prop} [Decidable c] (hc : c) (h : B) : if (!decide c) = true then A else B := by
  rw [decide_eq_true hc]
  exact iteF h
noncomputable def Same (H H' : Hp) : Prop := ∀ b o, H b = some o → H' b = some o
theorem Same.refl (H : Hp) : Same H H := fun _ _ h => h
theorem Same.trans {H H1 H2 : Hp} (a : Same H H1) (b : Same H1 H2) : Same H H2 := fun c o h => b c o (a c o h)
theorem Same.free {H H' : Hp} (e : Same H H') {l : Addr} (h : H' l = Option.none) : H l = Option.none := by
  cases q : H l with
  | none => rfl
  | some o =>
    rw [e l o q] at h
    cases h
theorem Same.seq {K : PySem.W.Frag} {H H' : Hp} {a : Addr} {xs : List V} (e : Same H H') (h : SqL K H a xs) : SqL K H' a xs := by
  rcases h with (h | ⟨o, h⟩) | h
  · exact .inl (.inl (e _ _ h))
  · exact .inl (.inr ⟨o, e _ _ h⟩)
  · exact .inr h
end L2
set_option Elab.async false
set_option linter.all false
set_option maxRecDepth 100000
set_option maxHeartbeats 4000000
namespace L2
open PySem PySem.Spec PyProof.Rows
section
variable {X : Cx}
noncomputable def CDivL (i j : Int) : Prop := 0 < j ∧ j.natAbs.log2 < 9000
theorem op_fdivL : OpR X (binaryOp .FloorDiv) (rI CDivL fun i j => .int (i / j)) := opI fun i j _ _ _ _ _ hc q => by
  have h1 : (0 : Int) < j := hc.1
  exact floordiv_int (by omega) (by rw [Int.fdiv_eq_ediv_of_nonneg i (by omega)]; exact q) (.inl (PyProof.noPylong_of_log2 hc.2))
theorem call_sum (hc : X.calm = true) : CallR X (.builtin "sum") (fun xs H Q => ∃ (p : Addr) (ns : List Int), xs = [.ref p] ∧ SqL X.K H p (ns.map V.int) ∧ Q (.int ns.sum) H) := by
  intro pins s σ H xs us Q I r h
  obtain ⟨p, ns, rfl, hl, q⟩ := h
  obtain ⟨u, rfl, ru⟩ := vals1 r
  cases ru
  obtain ⟨its, r', pl, hz⟩ := I.list hl
  have hi : IntsAre its ns := intsAre_of r'
  have hall : AllInts its.toArray := hi.allInts
  obtain ⟨ys, e⟩ := hall.items
  have hl' : s.heap.IsList p (intItems ys) := by rw [← e]; exact pl.isList
  refine sum_intListG (I.ok.hd hc) hl' fun h' tk t' hk => ?_
  have e2 : preSum (numAt ys) ys.size = ns.sum := by
    have e3 : numsOf (intItems ys).toList = ns := by rw [← e]; exact hi.numsOf
    rw [preSum_eq, List.take_of_length_le (by simp), ← e3, nums_intItems]
  rw [e2]
  exact ⟨.int ns.sum, H, I.kept hk, ⟨_, rfl⟩, q⟩
theorem call_isinst : CallR X (.builtin "isinstance") (fun xs H Q => ∃ x c cv t b, xs = [x, c] ∧ (∀ u, RelV c u → u = cv) ∧ TyOf X.K H x t ∧ PySem.W.kitOne X.K t cv = some b ∧ Q (.bl b) H) := by
  intro pins s σ H xs us Q I r h
  obtain ⟨x, c, cv, t, b, rfl, hcv, ty, e, q⟩ := h
  obtain ⟨u, w', rfl, r1, r2⟩ := vals2 r
  rw [hcv w' r2]
  exact isinst_ok I r1 ty e fun tk => ⟨.bl b, H, I.tok _, rfl, q⟩
theorem relTy {n : String} : ∀ u, RelV (.ty n) u → u = Value.type n := fun _ h => h
end
theorem forIn_collect {α β : Type} {l : List α} {f : α → β → Sem (ForInStep β)} (g : β → α → β) (c : β) (h : ∀ x ∈ l, ∀ c, f x c = pure (.yield (g c x))) :
    forIn l c f = pure (l.foldl g c) := by
  induction l generalizing c with
  | nil => rfl
  | cons x l ih =>
    rw [List.forIn_cons, h x List.mem_cons_self, pure_bind]
    exact ih _ fun y hy => h y (List.mem_cons_of_mem _ hy)
noncomputable def clOf (cells : List (Str × Addr)) (names : List (Str × NameKind)) (acc : List (Str × Addr)) : List (Str × Addr) :=
  names.foldl (fun cs y => if y.2 == .free then (y.1, (cells.lookup y.1).getD 0) :: cs else cs) acc
theorem closure_eq {scope : Scope} {env : Env} (h : ∀ y ∈ scope.names, y.2 = .free → ∃ c, env.cells.lookup y.1 = some c) : closureFor scope env = pure (clOf env.cells scope.names []) := by
  simp only [closureFor]
  rw [forIn_collect (fun cs y => if y.2 == .free then (y.1, (env.cells.lookup y.1).getD 0) :: cs else cs) [] fun x hx c => ?_]
  · rfl
  · obtain ⟨n, k⟩ := x
    by_cases hk : k = .free
    · subst hk
      obtain ⟨a, ea⟩ := h (n, .free) hx rfl
      have ea' : env.cells.lookup n = some a := ea
      simp only [beq_self_eq_true, if_true, cellOf, ea', pure_bind, Option.getD_some]
    · have hb : (k == NameKind.free) = false := by simpa using hk
      simp only [hb, Bool.false_eq_true, if_false]
theorem lookup_mem {α : Type} : ∀ {l : List (Str × α)} {x : Str} {c : α}, l.lookup x = some c → (x, c) ∈ l
  | [], _, _, h => by simp at h
  | (y, d) :: r, x, c, h => by
    rw [List.lookup_cons] at h
    cases hx : x == y with
    | true =>
      rw [hx] at h
      have e : x = y := by simpa using hx
      subst e
      cases h
      exact List.mem_cons_self
    | false =>
      rw [hx] at h
      exact List.mem_cons_of_mem _ (lookup_mem h)
theorem mem_lookup {α : Type} : ∀ {l : List (Str × α)} {x : Str} {c : α}, (x, c) ∈ l → ∃ d, l.lookup x = some d
  | [], _, _, h => by cases h
  | (y, d) :: r, x, c, h => by
    rw [List.lookup_cons]
    cases hx : x == y with
    | true => exact ⟨d, rfl⟩
    | false =>
      rcases List.mem_cons.mp h with e | h
      · cases e; simp at hx
      · exact mem_lookup h
theorem clOf_mem {cells : List (Str × Addr)} : ∀ {names : List (Str × NameKind)} {acc : List (Str × Addr)} {p : Str × Addr}, p ∈ clOf cells names acc ↔ p ∈ acc ∨ ((p.1, NameKind.free) ∈ names ∧ p.2 = (cells.lookup p.1).getD 0)
  | [], acc, p => by simp [clOf]
  | (n, k) :: r, acc, p => by
    show p ∈ clOf cells r (if k == .free then (n, (cells.lookup n).getD 0) :: acc else acc) ↔ _
    rw [clOf_mem (names := r)]
    by_cases hk : k = .free
    · subst hk
      simp only [beq_self_eq_true, if_true, List.mem_cons]
      constructor
      · rintro ((rfl | h) | h)
        · exact .inr ⟨.inl rfl, rfl⟩
        · exact .inl h
        · exact .inr ⟨.inr h.1, h.2⟩
      · rintro (h | ⟨h | h, e⟩)
        · exact .inl (.inr h)
        · obtain ⟨a, b⟩ := p
          cases h
          exact .inl (.inl (by rw [show b = _ from e]))
        · exact .inr ⟨h, e⟩
    · have hb : (k == NameKind.free) = false := by simpa using hk
      simp only [hb, Bool.false_eq_true, if_false, List.mem_cons]
      constructor
      · rintro (h | h)
        · exact .inl h
        · exact .inr ⟨.inr h.1, h.2⟩
      · rintro (h | ⟨h | h, e⟩)
        · exact .inl h
        · cases h; exact absurd rfl hk
        · exact .inr ⟨h, e⟩
theorem relabel_mem {scope : Scope} {env : Env} {x : Str} {k : NameKind} (h : (relabel scope env).names.lookup x = some k) : ∃ k', (x, k') ∈ scope.names ∧ (k' = k ∨ (k' = .free ∧ k = .cell)) := by
  have m := lookup_mem h
  unfold relabel at m
  obtain ⟨⟨n, k'⟩, hm, e⟩ := List.mem_map.mp m
  dsimp only at e
  split at e
  · rename_i hc
    rw [Bool.and_eq_true, Bool.and_eq_true] at hc
    have e1 : n = x := congrArg Prod.fst e
    have e2 : NameKind.cell = k := congrArg Prod.snd e
    subst e1 e2
    exact ⟨k', hm, .inr ⟨by simpa using hc.1.1, rfl⟩⟩
  · have e1 : n = x := congrArg Prod.fst e
    have e2 : k' = k := congrArg Prod.snd e
    subst e1 e2
    exact ⟨k', hm, .inl rfl⟩
noncomputable def subCx (X : Cx) (scope : Scope) (N : List Str) (cl : List (Str × Addr)) (C : Addr) (s : Shared) (H : Hp) (fp : List Addr) (xe : Value → Shared → Prop) : Cx :=
  { X with N := N, s₀ := s, H₀ := H, env := compEnvC scope cl C X.env, outer := X.stack, stack := X.stack, ex := fp, fn := fun _ => false, pn := [], xe := xe }
inductive Caps (X : Cx) (scope : Scope) : List Str → List (Option Nat) → Prop where
  | nil : Caps X scope [] []
  | own {x : Str} {N : List Str} {ix : List (Option Nat)} (r : Caps X scope N ix) : Caps X scope (x :: N) (none :: ix)
  | cap {x : Str} {j : Nat} {N : List Str} {ix : List (Option Nat)} (h1 : X.N[j]? = some x) (h2 : X.env.kindOf x = some .cell) (h3 : (relabel scope X.env).names.lookup x = some .cell) (r : Caps X scope N ix) : Caps X scope (x :: N) (some j :: ix)
noncomputable def capS (ix : List (Option Nat)) (σ : St) : St := ix.map fun o => match o with
  | none => none
  | some j => (σ[j]?).getD none
theorem Caps.get {X : Cx} {scope : Scope} {σ : St} : ∀ {N : List Str} {ix : List (Option Nat)}, Caps X scope N ix → ∀ (i : Nat) (x : Str) (v : V), N[i]? = some x → (capS ix σ)[i]? = some (some v) →
    ∃ j : Nat, X.N[j]? = some x ∧ σ[j]? = some (some v) ∧ X.env.kindOf x = some .cell ∧ (relabel scope X.env).names.lookup x = some .cell
  | _, _, .nil, i, x, v, h, _ => by simp at h
  | _, _, .own r, 0, x, v, _, h => by simp [capS] at h
  | _, _, .own r, i + 1, x, v, h1, h2 => r.get i x v (by simpa using h1) (by simpa [capS] using h2)
  | _, _, .cap (j := j) e1 e2 e3 r, 0, x, v, h1, h2 => by
    simp at h1
    subst h1
    refine ⟨j, e1, ?_, e2, e3⟩
    simp only [capS, List.map_cons, List.getElem?_cons_zero, Option.some.injEq] at h2
    cases q : σ[j]? with
    | none => rw [q] at h2; cases h2
    | some o => rw [q] at h2; simp only [Option.getD_some] at h2; rw [h2]
  | _, _, .cap e1 e2 e3 r, i + 1, x, v, h1, h2 => r.get i x v (by simpa using h1) (by simpa [capS] using h2)
theorem Caps.length {X : Cx} {scope : Scope} {N : List Str} {ix : List (Option Nat)} (h : Caps X scope N ix) : ix.length = N.length := by
  induction h with
  | nil => rfl
  | own _ ih => simp [ih]
  | cap _ _ _ _ ih => simp [ih]
noncomputable def Ext (a b : St) : Prop := b.length = a.length ∧ ∀ (i : Nat) v, a[i]? = some (some v) → b[i]? = some (some v)
theorem Ext.set {a : St} {i : Nat} {v : V} (h : a[i]? = some none) : Ext a (a.set i (some v)) := by
  refine ⟨by simp, fun j w e => ?_⟩
  by_cases hj : j = i
  · subst hj; rw [h] at e; cases e
  · rw [List.getElem?_set_ne (Ne.symm hj)]; exact e
noncomputable def PTs (X : Cx) (ifs : List Expr) (t : TT) : Prop :=
  ∀ (pins : List (Addr × Obj)) (s : Shared) (σ : St) (H : Hp) (Q : Bool → Hp → Prop), Inv X pins σ H s → t σ H Q →
    wpAny (model X.prog X.w) X.A (forIn ifs true fun c r => if r = true then do let ok ← isTrue c X.env (eval c X.env); pure (ForInStep.yield ok) else pure (ForInStep.yield r)) (TP X pins σ Q) X.xe s
noncomputable def ttNil : TT := fun _ H Q => Q true H
theorem pts_nil {X : Cx} : PTs X [] ttNil := fun pins s σ H Q I h => wpAny_tests_nil ⟨H, I, h⟩
theorem pts_one {X : Cx} {c : Expr} {t : TT} (h : PT X c t) : PTs X [c] t := fun pins s σ H Q I q => wpAny_tests_one (h pins s σ H Q I q)
noncomputable def CompW (J : It) (g : TG) (tt : TT) (te : TE) (σ0 : St) (D : Addr) (Q : VK) (H1 : Hp) : Prop := ∃ W : Nat → Nat → List V → Hp → Prop, (∃ m, W 0 m [] (upd H1 D (.lst []))) ∧ ∀ i m ys H, W i m ys H →
  (J.stop i H ∧ Q (.ref D) H) ∨ (J.go i H ∧ ∀ x H', J.yld i H x H' → g x σ0 H' fun σ2 H2 => Ext σ0 σ2 ∧ tt σ2 H2 fun b H3 =>
    if b = true then te σ2 H3 fun v H4 => H4 D = some (.lst ys) ∧ ys.length < sizeLine ∧ ∃ m', m' < m ∧ W (i + 1) m' (ys ++ [v]) (upd H4 D (.lst (ys ++ [v]))) else ∃ m', m' < m ∧ W (i + 1) m' ys H3)
noncomputable def tComp (wi : TI) (g : TG) (tt : TT) (te : TE) (ix : List (Option Nat)) : TE := fun σ H Q => wi σ H fun J H1 => ∀ D, H1 D = none → CompW J g tt te (capS ix σ) D Q H1
section
variable {prog : Program} {w : World} {A : Around} {R : Result → Shared → Prop} {s : Shared}
theorem comp_loop {elt target iter : Expr} {ifs : List Expr} {scope : Scope} {pos : Pos} {it acc : Value} {env : Env} (I : Nat → Shared → Prop)
    (turn : ∀ n s, I n s → wpAny (model prog w) A (pyNext it) (fun r s₁ => match r with
      | none => R (.ok .next) s₁
      | some v => wpAny (model prog w) A (letOwnedTupleGo target it v) (fun _ s₁' => wpAny (model prog w) A (assign target env v) (fun _ s₂ =>
          wpAny (model prog w) A (forIn ifs true fun c r => if r = true then do let ok ← isTrue c env (eval c env); pure (ForInStep.yield ok) else pure (ForInStep.yield r)) (fun ok s₃ =>
            if ok = true then wpAny (model prog w) A (eval elt env) (fun x s₄ =>
              wpAny (model prog w) A (call (.builtin "list.append") [acc, x]) (fun _ s₅ => ∃ m, m < n ∧ I m s₅) (notedBy (model prog w) A env fun e s' => R (.error e) s') s₄) (notedBy (model prog w) A env fun e s' => R (.error e) s') s₃
            else ∃ m, m < n ∧ I m s₃) (notedBy (model prog w) A env fun e s' => R (.error e) s') s₂) (notedBy (model prog w) A env fun e s' => R (.error e) s') s₁') (notedBy (model prog w) A env fun e s' => R (.error e) s') s₁) (notedBy (model prog w) A env fun e s' => R (.error e) s') s)
    (n : Nat) (h : I n s) : codeAny (model prog w) A (.compLoop (.ListComp elt [⟨target, iter, ifs, 0⟩] scope pos) 0 it acc env) R s := by
  refine codeAny_loop rfl I (fun n s hI => ?_) n h
  show wpAny _ A ((compTurn (.ListComp elt [⟨target, iter, ifs, 0⟩] scope pos) 0 it acc env).onRaise (fun x => do noteFrame x env; theTreesLotGoes x)) _ _ s
  refine wpAny_noted ?_
  rw [compTurn_list]
  refine wpAny_bind (wpAny_standAt (wpAny_bind (wpAny_mono (turn n s hI) (fun r s₁ h₁ => ?_) fun _ _ h' => h')))
  cases r with
  | none => exact wpAny_pure h₁
  | some v =>
    refine wpAny_bind (wpAny_mono h₁ (fun _ s₁' h₁' => ?_) fun _ _ h' => h')
    refine wpAny_bind (wpAny_mono h₁' (fun _ s₂ h₂ => wpAny_bind (wpAny_mono h₂ (fun ok s₃ h₃ => ?_) fun _ _ h' => h')) fun _ _ h' => h')
    cases ok with
    | false => exact wpAny_pure ⟨rfl, h₃⟩
    | true =>
      exact wpAny_bind (wpAny_bind (wpAny_mono h₃ (fun x s₄ h₄ => wpAny_bind (wpAny_mono h₄ (fun _ s₅ h₅ => wpAny_pure (wpAny_pure ⟨rfl, h₅⟩)) fun _ _ h' => h')) fun _ _ h' => h'))
end
section
variable {X : Cx}
noncomputable def noCell (sc : Scope) : Bool := sc.names.all fun y => y.2 != .cell
noncomputable def freeOk (sc : Scope) (env : Env) : Bool := sc.names.all fun y => y.2 != .free || env.kindOf y.1 == some .cell
noncomputable def namesOk (sc : Scope) : Bool := sc.names.all fun y => y.2 != .local || sc.names.lookup y.1 == some .local
structure BlockEnd (X : Cx) (pins : List (Addr × Obj)) (σ : St) (H : Hp) (C : Addr) (s : Shared) : Prop where
  inv : Inv X pins σ H s
  ns : ∃ m, s.heap.Ns C m
  free : H C = none
  loc : C ≠ X.env.locals
  young : X.s₀.heap.objs.size ≤ C
  cell : ∀ x c, X.env.cells.lookup x = some c → c ≠ C
  pin : ∀ p ∈ X.pn ++ pins, p.1 ≠ C
theorem BlockEnd.gone {pins : List (Addr × Obj)} {σ : St} {H : Hp} {C : Addr} {s : Shared} (B : BlockEnd X pins σ H C s) {h' : Heap} (hs : Heap.SameBut C s.heap h') : Inv X pins σ H { s with heap := h' } :=
  B.inv.turned (t' := s.toks) (it := C) (fun b o hb e => hs.extBut b o hb e) B.free B.loc (.inr B.young) B.cell B.pin
theorem comp_core {elt tg iter : Expr} {ifs : List Expr} {scope : Scope} {pos pos' : Pos} {N : List Str} {ix : List (Option Nat)} {wi : TI} {g : TG} {tt : TT} {te : TE} {use : Option (Value → Sem Unit)} {Qv : Value → Shared → Prop}
    (hc : X.calm = true) (hi : PI X tg iter wi) (hk : scope.kind = .function) (hcell0 : noCell scope = true) (hfree0 : freeOk scope X.env = true) (hnames0 : namesOk scope = true) (caps : Caps X scope N ix)
    (hg : ∀ cl C s H fp xe, PG (subCx X scope N cl C s H fp xe) tg g) (ht : ∀ cl C s H fp xe, PTs (subCx X scope N cl C s H fp xe) ifs tt) (he : ∀ cl C s H fp xe, PE (subCx X scope N cl C s H fp xe) elt te)
    (hs : ∀ x, foldedSetIterable iter X.env x = pure x)
    {pins : List (Addr × Obj)} {s : Shared} {σ : St} {H : Hp} {Q : VK} (I : Inv X pins σ H s) (h : tComp wi g tt te ix σ H Q)
    (fin : ∀ (C D : Addr) (H6 : Hp) (s6 : Shared), BlockEnd X pins σ H6 C s6 → Q (.ref D) H6 → compPost (model X.prog X.w) X.A X.xe use Qv (.ref D) C (.ok .next) s6) :
    wpAny (model X.prog X.w) X.A (comprehension (.ListComp elt [⟨tg, iter, ifs, 0⟩] scope pos) scope X.env pos' (newList []) false (eval iter X.env) use) Qv X.xe s := by
  have hcell : ∀ y ∈ scope.names, y.2 ≠ .cell := fun y hy e => by
    have := List.all_eq_true.mp hcell0 y hy
    rw [e] at this; exact absurd this (by decide)
  have hfree : ∀ y ∈ scope.names, y.2 = .free → X.env.kindOf y.1 = some .cell := fun y hy e => by
    have := List.all_eq_true.mp hfree0 y hy
    rw [e] at this; simpa using this
  have hnames : ∀ y ∈ scope.names, y.2 = .local → scope.names.lookup y.1 = some .local := fun y hy e => by
    have := List.all_eq_true.mp hnames0 y hy
    rw [e] at this; simpa using this
  have hcl : ∀ y ∈ scope.names, y.2 = .free → ∃ c, X.env.cells.lookup y.1 = some c := fun y hy e => I.ok.has y.1 (.inl (hfree y hy e))
  refine wpAny_comprehension_free (use := use) rfl hs (closure_eq hcl) hk hnames ?_
  generalize ecl : clOf X.env.cells scope.names [] = cl
  -- the cells of the block are the def's
  have cl1 : ∀ x c, cl.lookup x = some c → X.env.cells.lookup x = some c := fun x c e => by
    have m := lookup_mem e
    rw [← ecl] at m
    rcases clOf_mem.mp m with z | ⟨z, z'⟩
    · cases z
    · obtain ⟨a, ea⟩ := hcl _ z rfl
      have ea' : X.env.cells.lookup x = some a := ea
      have z2 : c = (X.env.cells.lookup x).getD 0 := z'
      rw [ea', Option.getD_some] at z2
      rw [ea', z2]
  have cl2 : ∀ x, (x, NameKind.free) ∈ scope.names → ∃ c, cl.lookup x = some c := fun x hx => by
    have m : (x, (X.env.cells.lookup x).getD 0) ∈ cl := by rw [← ecl]; exact clOf_mem.mpr (.inr ⟨hx, rfl⟩)
    exact mem_lookup m
  refine thn (hi pins s σ H _ I h) fun v s1 h1 => thn h1 fun itv s2 h2 => ?_
  obtain ⟨it, fp, tn, J, H2, e, I2, T, st2, f2, body⟩ := h2
  subst e
  refine wpAny_newObj_type (wpAny_newFunctionEnv hcell (by intro y hy; simp at hy) (fun h₁ hns₁ hsb₁ => ?_) hk)
  dsimp only at hns₁ hsb₁ ⊢
  have hD : H2 s2.heap.objs.size = none := I2.hok.fresh (Nat.le_refl _)
  obtain ⟨W, ⟨m0, w0⟩, turn⟩ := body _ hD
  have I3 : Inv X pins σ (upd H2 s2.heap.objs.size (.lst [])) { s2 with heap := s2.heap.push { cls := .type "list", dict := none, data := .seq ([] : List Value).toArray } } :=
    I2.laid (t' := s2.toks) (fun b o e => Heap.get?_push_of_some _ e) (Nat.le_refl _) ⟨Nat.zero_le _, [], 0, .nil, Heap.get?_push_size _ rfl⟩
  generalize hs3 : ({ s2 with heap := s2.heap.push { cls := .type "list", dict := none, data := .seq ([] : List Value).toArray } } : Shared) = s3 at I3
  have es3 : s2.heap.push { cls := .type "list", dict := none, data := .seq ([] : List Value).toArray } = s3.heap := by rw [← hs3]
  rw [es3] at hns₁ hsb₁ ⊢
  generalize hD' : s2.heap.objs.size = D at *
  generalize hH3 : upd H2 D (.lst []) = H3 at *
  have szC : s3.heap.objs.size = D + 1 := by rw [← es3, Heap.size_push, hD']
  -- what was, is
  have old : ∀ b o, s3.heap.get? b = some o → h₁.get? b = some o := fun b o e => hsb₁.extBut b o (Nat.ne_of_lt (Heap.lt_size e)) (Heap.get?_push_of_some _ e)
  have fpl : ∀ b ∈ fp, b < D := fun b hb => by
    obtain ⟨o, e, _⟩ := T.obj 0 _ st2 b hb
    rw [← hD']; exact Heap.lt_size e
  have fpD : ∀ b ∈ fp, H3 b = none := fun b hb => by
    rw [← hH3, upd_ne (Nat.ne_of_lt (fpl b hb))]; exact (f2 b hb).1
  have fstk : ∀ b ∈ fp, b ∉ frs X.stack := fun b hb z => by
    obtain ⟨_, f1, f3, _⟩ := f2 b hb
    rcases List.mem_cons.mp (I2.stkSub b z) with e | e
    · exact f1 e
    · exact f3 e
  let E' : Value → Shared → Prop := notedBy (model X.prog X.w) X.A (compEnvC scope cl s3.heap.objs.size X.env) fun e s' => compPost (model X.prog X.w) X.A X.xe use Qv (.ref D) s3.heap.objs.size (.error e) s'
  have ok' : (subCx X scope N cl s3.heap.objs.size s3 H3 fp E').Ok := by
    refine { mod := I.ok.mod, kind := ?_, glob := I.ok.glob, blt := I.ok.blt, above := Nat.le_refl _, inj := ?_, has := ?_, cab := ?_, hd := I.ok.hd, frames := I.ok.frames, stk := .inl rfl, exf := ?_, bs := I3.bs, bsz := ?_, noex := ?_, exfs := fstk, funs := I3.stack, frf := I3.stkFree }
    · show (relabel scope X.env).kind = .function
      exact hk
    · exact fun x y c e1 e2 => I.ok.inj x y c (cl1 x c e1) (cl1 y c e2)
    · intro x hx
      have hx' : (relabel scope X.env).names.lookup x = some .cell ∨ (relabel scope X.env).names.lookup x = some .free := hx
      have : (x, NameKind.free) ∈ scope.names := by
        rcases hx' with e | e
        · obtain ⟨k', hm, z | ⟨z, _⟩⟩ := relabel_mem e
          · subst z; exact absurd rfl (hcell _ hm)
          · subst z; exact hm
        · obtain ⟨k', hm, z | ⟨z, z'⟩⟩ := relabel_mem e
          · subst z; exact hm
          · cases z'
      exact cl2 x this
    · intro x c z; cases z
    · intro b hb
      refine ⟨fun z => ?_, fun x c e => (f2 b hb).2.2.2.2.1 x c (cl1 x c e)⟩
      have lt := fpl b hb
      have z' : b = s3.heap.objs.size := z
      rw [z', szC] at lt
      exact absurd lt (Nat.not_lt.mpr (Nat.le_succ D))
    · exact Nat.le_trans I3.ok.bsz I3.sz
    · intro b o e hb
      rcases (f2 b hb).2.2.2.1 with z | z
      · exact I.ok.noex b o e z
      · exact absurd (Nat.lt_of_lt_of_le (Heap.lt_size e) (Nat.le_trans I.ok.bsz z)) (Nat.lt_irrefl _)
  have I4 : ∀ tk, Inv (subCx X scope N cl s3.heap.objs.size s3 H3 fp E') [] (capS ix σ) H3 { s3 with heap := h₁, toks := tk } := fun tk => by
    refine ⟨ok', rfl, I3.bare, Un.kept old, ⟨_, hns₁, fun i x v e1 e2 e3 => ?_⟩, fun x c e => ?_, ?_, fun x c e => I3.freeC x c (cl1 x c e), fun p hp => (by cases hp), I3.hok.kept old, ?_⟩
    · obtain ⟨j, j1, j2, j3, j4⟩ := caps.get i x v e1 e2
      obtain ⟨m, hn, hl⟩ := I3.loc
      obtain ⟨u, r, l⟩ := hl j x v j1 j2 (.inr (.inl j3))
      refine ⟨u, r, .inr ⟨.inl j4, ?_⟩⟩
      rcases l with ⟨l, _⟩ | ⟨_, c, ec, hcell⟩
      · have l' : X.env.kindOf x = some .local := l
        rw [j3] at l'; cases l'
      · obtain ⟨k', hm, z | ⟨z, _⟩⟩ := relabel_mem j4
        · subst z; exact absurd rfl (‹∀ y ∈ scope.names, y.2 ≠ .cell› _ hm)
        · subst z
          obtain ⟨c', ec'⟩ := cl2 x hm
          have := cl1 x c' ec'
          rw [ec] at this; cases this
          obtain ⟨o, ho, hd⟩ := hcell
          exact ⟨c, ec', o, old _ _ ho, hd⟩
    · obtain ⟨v, o, ho, hd⟩ := I3.cell x c (cl1 x c e)
      exact ⟨v, o, old _ _ ho, hd⟩
    · exact I3.hok.fresh (Nat.le_refl _)
    · show (capS ix σ).length = N.length
      rw [← caps.length]; simp [capS]
  have st4 : tn 0 h₁ := T.keep 0 _ _ st2 fun b hb o e => old b o (by rw [← es3]; exact Heap.get?_push_of_some _ e)
  -- the block's end
  have fin6 : ∀ (s6 : Shared) (H6 : Hp), Inv (subCx X scope N cl s3.heap.objs.size s3 H3 fp E') [] (capS ix σ) H6 s6 → Q (.ref D) H6 →
      compPost (model X.prog X.w) X.A X.xe use Qv (.ref D) s3.heap.objs.size (.ok .next) s6 := fun s6 H6 I6 q => by
    obtain ⟨m, hn, _⟩ := I6.loc
    refine fin s3.heap.objs.size D H6 s6 ⟨I3.call' (s' := s6) (ch := fp) I6.os I6.base I6.hok I6.bare ?_, ⟨m, hn⟩, I6.free, ?_, I3.sz, ?_, ?_⟩ q
    · intro b hb
      obtain ⟨_, f1, _, f3, f4, f5⟩ := f2 b hb
      exact ⟨f3, f1, f4, f5⟩
    · exact Nat.ne_of_gt I3.lt
    · intro x c e z
      obtain ⟨v, o, ho, _⟩ := I3.cell x c e
      exact absurd (Heap.lt_size ho) (by rw [z]; exact Nat.lt_irrefl _)
    · intro p hp z
      exact absurd (Heap.lt_size (I3.pin p hp).1) (by rw [z]; exact Nat.lt_irrefl _)
  -- the loop
  have loop : ∀ s4 : Shared, s4 = { s3 with heap := h₁, toks := s2.toks + ([] : List (Str × Value)).length } →
      codeAny (model X.prog X.w) X.A (.compLoop (.ListComp elt [⟨tg, iter, ifs, 0⟩] scope pos) 0 (.ref it) (.ref D) (compEnvC scope cl s3.heap.objs.size X.env)) (compPost (model X.prog X.w) X.A X.xe use Qv (.ref D) s3.heap.objs.size) s4 := by
    rintro s4 rfl
    refine comp_loop (fun n s' => ∃ i ys H', Inv (subCx X scope N cl s3.heap.objs.size s3 H3 fp E') [] (capS ix σ) H' s' ∧ tn i s'.heap ∧ (∀ b ∈ fp, H' b = none) ∧ W i n ys H') ?_ m0 ⟨0, [], H3, I4 _, st4, fpD, w0⟩
    rintro n s5 ⟨i, ys, H5, I5, st5, fr5, w5⟩
    have stat : ∀ {H' : Hp}, (∀ b ∈ fp, H' b = none) → ∀ b ∈ fp, FpOk (subCx X scope N cl s3.heap.objs.size s3 H3 fp E') [] H' b := fun hn b hb => by
      refine ⟨hn b hb, fun z => ?_, fstk b hb, .inl hb, fun x c e => (f2 b hb).2.2.2.2.1 x c (cl1 x c e), fun p hp => (by cases hp)⟩
      have lt := fpl b hb
      have z' : b = s3.heap.objs.size := z
      rw [z', szC] at lt
      exact absurd lt (Nat.not_lt.mpr (Nat.le_succ D))
    rcases turn i n ys H5 w5 with ⟨stop, q⟩ | ⟨go, step⟩
    · refine thn (T.done (subCx X scope N cl s3.heap.objs.size s3 H3 fp E') rfl rfl rfl hc i [] s5 _ H5 E' I5 (stat fr5) st5 stop) fun r s6 ⟨hr, I6⟩ => ?_
      subst hr
      exact fin6 s6 H5 I6 q
    · refine thn (T.item (subCx X scope N cl s3.heap.objs.size s3 H3 fp E') rfl rfl rfl hc i [] s5 _ H5 E' I5 (stat fr5) st5 go) fun r s6 ⟨u, hr, h6⟩ => ?_
      subst hr
      refine thn h6 fun _ s7 ⟨x, H7, I7, r7, y7, st7, fr7⟩ => ?_
      have I7' := I7.pinned (stat fr7) (T.obj _ _ st7)
      refine thn (hg cl s3.heap.objs.size s3 H3 fp E' _ s7 _ H7 x u _ I7' r7 (step x H7 y7)) fun _ s8 ⟨σ8, H8, I8, ext, q8⟩ => ?_
      have again : ∀ {σ9 : St} {H9 : Hp} {s9 : Shared} {m' : Nat} {zs : List V}, Ext (capS ix σ) σ9 → Inv (subCx X scope N cl s3.heap.objs.size s3 H3 fp E') ([] ++ pinsAt fp s7.heap) σ9 H9 s9 → m' < n → W (i + 1) m' zs H9 →
          ∃ m, m < n ∧ ∃ i ys H', Inv (subCx X scope N cl s3.heap.objs.size s3 H3 fp E') [] (capS ix σ) H' s9 ∧ tn i s9.heap ∧ (∀ b ∈ fp, H' b = none) ∧ W i m ys H' := fun {σ9 H9 s9 m' zs} ex I9 hm w9 => by
        refine ⟨m', hm, i + 1, zs, H9, (I9.unpinned).weak ex.1.symm ex.2, T.keep _ _ _ st7 fun b hb o e => (I9.pin (b, o) (List.mem_append_right _ (List.mem_append_right _ (mem_pinsAt hb e)))).1, fun b hb => ?_, w9⟩
        obtain ⟨o, e, d⟩ := T.obj _ _ st7 b hb
        exact (I9.pin (b, o) (List.mem_append_right _ (List.mem_append_right _ (mem_pinsAt hb e)))).2.1
      refine thn (ht cl s3.heap.objs.size s3 H3 fp E' _ s8 σ8 H8 _ I8 q8) fun ok s9 ⟨H9, I9, q9⟩ => ?_
      cases ok with
      | false =>
        obtain ⟨m', hm, w9⟩ := q9
        exact again ext I9 hm w9
      | true =>
        refine thn (he cl s3.heap.objs.size s3 H3 fp E' _ s9 σ8 H9 _ I9 q9) fun u10 s10 ⟨v10, H10, I10, r10, hDl, hlt, m', hm, w10⟩ => ?_
        refine thn (mt_append (X := subCx X scope N cl s3.heap.objs.size s3 H3 fp E') _ s10 σ8 H10 (.ref D) [v10] (.ref D) [u10] (fun _ H' => H' = upd H10 D (.lst (ys ++ [v10]))) I10 rfl (.cons r10 .nil) ⟨D, ys, v10, rfl, rfl, hDl, hlt, rfl⟩) fun _ s11 ⟨_, H11, I11, _, e11⟩ => ?_
        subst e11
        exact again ext I11 hm w10
  exact codeAny_compStart_list (loop _ (by rw [← hs3])) (T.self _ 0 _ _ _ st4 (loop _ (by rw [← hs3])))
theorem pe_comp {elt tg iter : Expr} {ifs : List Expr} {scope : Scope} {pos : Pos} {N : List Str} {ix : List (Option Nat)} {wi : TI} {g : TG} {tt : TT} {te : TE}
    (hc : X.calm = true) (hi : PI X tg iter wi) (hk : scope.kind = .function) (hcell0 : noCell scope = true) (hfree0 : freeOk scope X.env = true) (hnames0 : namesOk scope = true) (caps : Caps X scope N ix)
    (hg : ∀ cl C s H fp xe, PG (subCx X scope N cl C s H fp xe) tg g) (ht : ∀ cl C s H fp xe, PTs (subCx X scope N cl C s H fp xe) ifs tt) (he : ∀ cl C s H fp xe, PE (subCx X scope N cl C s H fp xe) elt te)
    (hs : ∀ x, foldedSetIterable iter X.env x = pure x := by intro _; rfl) :
    PE X (.ListComp elt [⟨tg, iter, ifs, 0⟩] scope pos) (tComp wi g tt te ix) := by
  intro pins s σ H Q I h
  rw [eval_ListComp]
  refine comp_core (use := none) hc hi hk hcell0 hfree0 hnames0 caps hg ht he hs I h fun C D H6 s6 B q => ?_
  obtain ⟨m, hn⟩ := B.ns
  exact ⟨m, hn, fun h' hsb => ⟨.ref D, H6, B.gone hsb, rfl, q⟩⟩
noncomputable def tSetC (i : Nat) (te : TE) : TS := fun D σ H => te σ H fun x H1 => D.nx (σ.set i (some x)) H1
theorem ps_setComp {i : Nat} {y : Str} {py : Pos} {spos : Pos} {elt tg iter : Expr} {ifs : List Expr} {scope : Scope} {pos : Pos} {N : List Str} {ix : List (Option Nat)} {wi : TI} {g : TG} {tt : TT} {te : TE}
    (hN : X.N.Nodup) (hi' : X.N[i]? = some y) (hx : Loc X.env.scope y) (hsw : swapsWith (.ListComp elt [⟨tg, iter, ifs, 0⟩] scope pos) (some (.Name y py)) spos.line X.env = pure true)
    (hc : X.calm = true) (hi : PI X tg iter wi) (hk : scope.kind = .function) (hcell0 : noCell scope = true) (hfree0 : freeOk scope X.env = true) (hnames0 : namesOk scope = true) (caps : Caps X scope N ix)
    (hg : ∀ cl C s H fp xe, PG (subCx X scope N cl C s H fp xe) tg g) (ht : ∀ cl C s H fp xe, PTs (subCx X scope N cl C s H fp xe) ifs tt) (he : ∀ cl C s H fp xe, PE (subCx X scope N cl C s H fp xe) elt te)
    (hs : ∀ x, foldedSetIterable iter X.env x = pure x := by intro _; rfl) (hf : X.fn y = true ∨ X.env.scope.names.lookup y = some .local := by first | exact .inl rfl | exact .inr rfl | assumption) :
    PS X (.Assign [.Name y py] (.ListComp elt [⟨tg, iter, ifs, 0⟩] scope pos) spos) (tSetC i (tComp wi g tt te ix)) := by
  intro pins s σ H D I h
  rw [exec_Assign_Name_used _ _ _ _ hsw]
  refine wpAny_bind (wpAny_standAt (wpAny_bind ?_))
  show wpAny _ X.A (do let _ ← comprehension (.ListComp elt [⟨tg, iter, ifs, 0⟩] scope pos) scope X.env _ (newList []) false (eval iter X.env) (some (assign (.Name y py) X.env))) _ _ s
  refine wpAny_bind (wpAny_mono (comp_core (use := some (assign (.Name y py) X.env)) (Qv := fun _ s' => SP X pins D .next s') hc hi hk hcell0 hfree0 hnames0 caps hg ht he hs I h fun C a H6 s6 B q => ?_) (fun _ s' hq => wpAny_pure (wpAny_pure hq)) fun _ _ e => e)
  obtain ⟨m, hn⟩ := B.ns
  show wpAny _ X.A (assign (.Name y py) X.env (.ref a)) _ _ s6
  refine wpAny_assign_Name (store_ok2 B.inv hN hi' hx (v := .ref a) rfl (fun s7 I7 ⟨z, hz, hz'⟩ => ?_) hf)
  have hzC : C ≠ z := by
    rcases hz' with e | e
    · rw [e]; exact B.loc
    · exact fun w => B.cell y z e w.symm
  refine ⟨m, hn.sameBut hz hzC, fun h' hsb => ?_⟩
  have B7 : BlockEnd X pins (σ.set i (some (.ref a))) H6 C s7 := ⟨I7, ⟨m, hn.sameBut hz hzC⟩, B.free, B.loc, B.young, B.cell, B.pin⟩
  exact ⟨_, H6, B7.gone hsb, q⟩
theorem comp_list {K : PySem.W.Frag} {a : Addr} {xs : List V} {g : TG} {tt : TT} {te : TE} {σ0 : St} {H : Hp} {D : Addr} {Q : VK} (f : V → V) (hz : xs.length ≤ sizeLine) (hx : SqL K H a xs) (hD : H D = none)
    (hs : ∀ (i : Nat) (x : V) (H' : Hp) (R : VK) (R0 : Hp → Prop), xs[i]? = some x → (∀ b, b ≠ D → H' b = H b) → R (f x) H' → g x σ0 H' fun σ2 H2 => Ext σ0 σ2 ∧ tt σ2 H2 fun b H3 => if b = true then te σ2 H3 R else R0 H3)
    (hq : Q (.ref D) (upd H D (.lst (xs.map f)))) :
    CompW (Itl K a) g tt te σ0 D Q H := by
  have stays : ∀ ys : List V, SqL K (upd H D (.lst ys)) a xs := fun ys => by
    have sm : Same H (upd H D (.lst ys)) := fun b u q => by rw [upd_ne (ne_of_none q hD)]; exact q
    exact sm.seq hx
  refine ⟨fun i m ys H' => m = xs.length - i ∧ i ≤ xs.length ∧ ys = (xs.take i).map f ∧ H' = upd H D (.lst ys), ⟨xs.length, by simp, Nat.zero_le _, by simp, rfl⟩, ?_⟩
  rintro i m ys H' ⟨rfl, hi, rfl, rfl⟩
  by_cases hlt : i < xs.length
  · refine .inr ⟨⟨xs, xs[i], stays _, by simp [hlt]⟩, fun x H'' y => ?_⟩
    obtain ⟨e, y⟩ := y
    subst e
    have ex := y xs (stays _)
    refine hs i x _ _ _ ex (fun b hb => upd_ne hb) ⟨upd_same, by simp; omega, xs.length - (i + 1), by omega, rfl, hlt, ?_, ?_⟩
    · rw [List.take_add_one, ex, List.map_append]; rfl
    · rw [upd_upd]
  · have e : i = xs.length := by omega
    subst e
    refine .inl ⟨⟨xs, stays _, Nat.le_refl _⟩, ?_⟩
    rw [List.take_length]
    exact hq
end
end L2
set_option Elab.async false
set_option linter.all false
set_option maxRecDepth 100000
set_option maxHeartbeats 4000000
namespace L2
open PySem PySem.Spec PyProof.Rows
section
variable {P : Program} {w : World} {H : Hp} {h h' : Heap} {a : Addr} {o : HO}
theorem ObjOk.there (x : ObjOk P w H h a o) : ∃ u, h.get? a = some u := by
  cases o with
  | lst xs => obtain ⟨_, _, _, _, e⟩ := x; exact ⟨_, e⟩
  | tup xs => obtain ⟨_, _, _, _, e, _⟩ := x; exact ⟨_, e⟩
  | dK kvs => obtain ⟨_, _, _, _, _, _, _, e, _⟩ := x; exact ⟨_, e⟩
  | dT kvs => obtain ⟨_, _, _, _, _, _, _, e, _⟩ := x; exact ⟨_, e⟩
  | set S n => obtain ⟨_, _, _, _, e, _⟩ := x; exact ⟨_, e⟩
  | ins C dx fs => obtain ⟨_, _, _, e, _⟩ := x; exact ⟨_, e⟩
  | own y => obtain ⟨_, e⟩ := x; exact ⟨_, e⟩
  | xd fs => obtain ⟨_, ⟨_, _, _, e, _⟩, _⟩ := x; exact ⟨_, e⟩
  | rng lo hi => obtain ⟨_, _, _, e⟩ := x; exact ⟨_, e⟩
  | frz ob u => obtain ⟨e, _⟩ := x; exact ⟨_, e⟩
  | tbl ps => exact ⟨_, show h.get? a = some _ from x⟩
  | met f y => exact ⟨_, show h.get? a = some _ from x⟩
  | ext φ => obtain ⟨_, e, _⟩ := x; exact e
theorem HOk.none (x : HOk P w H h) (e : h.get? a = Option.none) : H a = Option.none := by
  cases q : H a with
  | none => rfl
  | some u =>
    obtain ⟨v, z⟩ := (x a u q).there
    rw [e] at z; cases z
theorem HOk.part (x : HOk P w H h) (k : ∀ b o, H b ≠ Option.none → h.get? b = some o → h'.get? b = some o) : HOk P w H h' := fun b u e => by
  refine (x b u e).stay (fun c v hc q => k c v ?_ q) (fun _ q => q) fun _ _ q => q
  intro z
  rcases hc with rfl | hc
  · rw [z] at e; cases e
  · rw [z] at hc; cases hc
end
noncomputable def Tr (h : Heap) (e T : Addr) (cls : Value) : Prop := ∃ oe vs oT ts a0, h.get? e = some oe ∧ oe.cls = cls ∧ vs[0]? = some a0 ∧ oe.data = .fields vs ∧ vs[1]? = some (.ref T) ∧ T ≠ e ∧ h.get? T = some oT ∧ oT.data = .fields ts ∧ ts[3]? = some Value.none
theorem rebase {h base base' : Heap} : ∀ {l : List Env}, h.FunFrames base l → (∀ b ∈ frs l, base'.get? b = none) → h.FunFrames base' l
  | [], _, _ => trivial
  | env :: r, ⟨hk, ⟨L, o, hf, _, ho, hd⟩, hr⟩, hb => by
    have hL : L ∈ frs (env :: r) := by unfold frs; rw [List.filterMap_cons, hf]; exact List.mem_cons_self
    refine ⟨hk, ⟨L, o, hf, hb L hL, ho, hd⟩, rebase hr fun b z => hb b ?_⟩
    unfold frs at z ⊢
    rw [List.filterMap_cons, hf]
    exact List.mem_cons_of_mem _ z
structure Kept (l : List Env) (ch : List Addr) (h h' : Heap) : Prop where
  keep : ∀ b o, b ∉ frs l → b ∉ ch → h.get? b = some o → h'.get? b = some o
  slot : ∀ b o, b ∈ frs l → h.get? b = some o → ∃ sl, h'.get? b = some { o with slots := sl }
section
variable {M : Model} {A : Around} {E : Value → Shared → Prop} {s : Shared} {Q : Unit → Shared → Prop} {base : Heap} {env : Env} {outer l : List Env} {L e T : Addr} {cls : Value}
theorem notf (hl : s.heap.FunFrames base l) {b : Addr} {o : Obj} (hb : b ∈ frs l) (q : s.heap.get? b = some o) : ∀ vs, o.data ≠ .fields vs := by
  obtain ⟨_, o', ho, hd⟩ := hl.mem hb
  rw [q] at ho; cases ho; exact hd
theorem trace_new {h h' : Heap} {ch : List Addr} (hl : h.FunFrames base l) {T' : Addr} {oT : Obj} {ts : Array Value} (hn : (PySem.W.hideAll h (frs l ++ ch)).get? T' = none) (hT : h'.get? T' = some oT) (hd : oT.data = .fields ts)
    (up : ∀ b o, h.get? b = some o → (∀ vs, o.data ≠ .fields vs) → ∃ sl, h'.get? b = some { o with slots := sl }) : T' ∈ ch ∨ h.get? T' = none := by
  cases q : h.get? T' with
  | none => exact .inr rfl
  | some o =>
    refine .inl ?_
    by_cases hm : T' ∈ frs l ++ ch
    · rcases List.mem_append.mp hm with z | z
      · obtain ⟨_, o', ho, hdo⟩ := hl.mem z
        obtain ⟨sl, e⟩ := up _ _ ho hdo
        rw [hT] at e; cases e
        exact absurd hd (hdo ts)
      · exact z
    · rw [PySem.W.hideAll_get _ q hm] at hn; cases hn
theorem leave_tr (hfr : A.frames = some (env :: outer)) (hl : s.heap.FunFrames base (env :: outer)) (hf : env.frame = some L) (tr : Tr s.heap e T cls)
    (hQ : ∀ h' T', Tr h' e T' cls → (T' = T ∨ s.heap.get? T' = none) → Kept (env :: outer) [e, T] s.heap h' → Q () { s with heap := h' }) : wpAny M A (leaving env (.ref e)) Q E s := by
  obtain ⟨oe, vs, oT, ts, a0, he, hc, h0, hd, h1, hTe, hT, hdT, h3⟩ := tr
  have hid : ∀ b, b ∈ frs (env :: outer) ++ [e, T] → (PySem.W.hideAll s.heap (frs (env :: outer) ++ [e, T])).get? b = none := fun b hb => PySem.W.hideAll_none _ hb
  refine wpAny_leaving_nextW (base := PySem.W.hideAll s.heap (frs (env :: outer) ++ [e, T])) (a0 := a0) (cls := cls) hfr (rebase hl fun b hb => hid b (List.mem_append_left _ hb)) hf
    ⟨oe, vs, T, oT, ts, he, ⟨hc, h0⟩, hd, h1, hid T (by simp), hTe, hT, hdT, h3⟩ (fun b o q => PySem.W.of_hideAll _ q) (hid e (by simp)) fun h' hL => ?_
  obtain ⟨k1, k2, ⟨oe', vs', T', oT', ts', he', ⟨hc', h0'⟩, hd', h1', hn', hTe', hT', hdT', h3'⟩, k4⟩ := hL
  refine hQ h' T' ⟨oe', vs', oT', ts', a0, he', hc', h0', hd', h1', hTe', hT', hdT', h3'⟩ ?_ ⟨fun b o hb hch q => k1 b o (PySem.W.hideAll_get _ q fun z => ?_), fun b o hb q => k4 b o q (notf hl hb q)⟩
  · rcases trace_new hl hn' hT' hdT' k4 with z | z
    · rcases List.mem_cons.mp z with z | z
      · exact absurd z hTe'
      · exact .inl (by simpa using z)
    · exact .inr z
  · rcases List.mem_append.mp z with z | z
    · exact hb z
    · exact hch z
theorem leave_new1 {oe : Obj} {vs : Array Value} {a0 : Value} (hfr : A.frames = some (env :: outer)) (hl : s.heap.FunFrames base (env :: outer)) (hf : env.frame = some L) (he : s.heap.get? e = some oe) (hc : oe.cls = cls) (hd : oe.data = .fields vs) (h0 : vs[0]? = some a0) (h1 : vs[1]? = some .none)
    (hQ : ∀ h' T', Tr h' e T' cls → s.heap.get? T' = none → Kept (env :: outer) [e] s.heap h' → Q () { s with heap := h' }) : wpAny M A (leaving env (.ref e)) Q E s := by
  have hid : ∀ b, b ∈ frs (env :: outer) ++ [e] → (PySem.W.hideAll s.heap (frs (env :: outer) ++ [e])).get? b = none := fun b hb => PySem.W.hideAll_none _ hb
  refine wpAny_leaving_firstW (base := PySem.W.hideAll s.heap (frs (env :: outer) ++ [e])) (a0 := a0) hfr (rebase hl fun b hb => hid b (List.mem_append_left _ hb)) hf he (fun b o q => PySem.W.of_hideAll _ q) (hid e (by simp)) hd h1 h0 fun h' hL => ?_
  obtain ⟨k1, k2, ⟨oe', vs', T', oT', ts', he', ⟨hc', h0'⟩, hd', h1', hn', hTe', hT', hdT', h3'⟩, k4⟩ := hL
  refine hQ h' T' ⟨oe', vs', oT', ts', a0, he', hc'.trans hc, h0', hd', h1', hTe', hT', hdT', h3'⟩ ?_ ⟨fun b o hb hch q => k1 b o (PySem.W.hideAll_get _ q fun z => ?_), fun b o hb q => k4 b o q (notf hl hb q)⟩
  · rcases trace_new hl hn' hT' hdT' k4 with z | z
    · exact absurd (by simpa using z) hTe'
    · exact z
  · rcases List.mem_append.mp z with z | z
    · exact hb z
    · exact hch z
theorem look_tr (hfr : A.frames = some (env :: outer)) (hl : s.heap.FunFrames base (env :: outer)) (hf : env.frame = some L) (tr : Tr s.heap e T cls)
    (hQ : ∀ h' T', Tr h' e T' cls → (T' = T ∨ s.heap.get? T' = none) → Kept (env :: outer) [e, T] s.heap h' → Q () { s with heap := h' }) :
    wpAny M A (noteFrame (.ref e) env) (fun _ s2 => wpAny M A (setFlight (.ref e) none) Q E s2) E s := by
  obtain ⟨oe, vs, oT, ts, a0, he, hc, h0, hd, h1, hTe, hT, hdT, h3⟩ := tr
  have hid : ∀ b, b ∈ frs (env :: outer) ++ [e, T] → (PySem.W.hideAll s.heap (frs (env :: outer) ++ [e, T])).get? b = none := fun b hb => PySem.W.hideAll_none _ hb
  refine wpAny_looks_onW (base := PySem.W.hideAll s.heap (frs (env :: outer) ++ [e, T])) (a0 := a0) (cls := cls) hfr hf
    ⟨fun b o q => PySem.W.of_hideAll _ q, hid e (by simp), rebase hl fun b hb => hid b (List.mem_append_left _ hb), oe, vs, T, oT, ts, he, ⟨hc, h0⟩, hd, h1, hid T (by simp), hTe, hT, hdT, h3⟩ fun h1' held up1 => ?_
  refine wpAny_landsW held fun h' fl up2 => ?_
  have up := Heap.UpToSlots.trans up1 up2
  obtain ⟨k1, _, k2, oe', vs', T', oT', ts', he', ⟨hc', h0'⟩, hd', h1', hn', hTe', hT', hdT', h3'⟩ := fl
  refine hQ h' T' ⟨oe', vs', oT', ts', a0, he', hc', h0', hd', h1', hTe', hT', hdT', h3'⟩ ?_ ⟨fun b o hb hch q => k1 b o (PySem.W.hideAll_get _ q fun z => ?_), fun b o hb q => up b o q (notf hl hb q)⟩
  · rcases trace_new hl hn' hT' hdT' up with z | z
    · rcases List.mem_cons.mp z with z | z
      · exact absurd z hTe'
      · exact .inl (by simpa using z)
    · exact .inr z
  · rcases List.mem_append.mp z with z | z
    · exact hb z
    · exact hch z
theorem again_tr (hl : s.heap.FunFrames base l) (tr : Tr s.heap e T cls)
    (hQ : ∀ h' T', Tr h' e T' cls → (T' = T ∨ s.heap.get? T' = none) → Kept l [e, T] s.heap h' → Q () { s with heap := h' }) : wpAny M A (setFlight (.ref e) none) Q E s := by
  obtain ⟨oe, vs, oT, ts, a0, he, hc, h0, hd, h1, hTe, hT, hdT, h3⟩ := tr
  have hid : ∀ b, b ∈ frs l ++ [e, T] → (PySem.W.hideAll s.heap (frs l ++ [e, T])).get? b = none := fun b hb => PySem.W.hideAll_none _ hb
  refine lands_againW (base := PySem.W.hideAll s.heap (frs l ++ [e, T])) (l := l) (a0 := a0) (cls := cls)
    ⟨fun b o q => PySem.W.of_hideAll _ q, hid e (by simp), rebase hl fun b hb => hid b (List.mem_append_left _ hb), oe, vs, T, oT, ts, he, ⟨hc, h0⟩, hd, h1, hid T (by simp), hTe, hT, hdT, h3⟩ fun h' fl up => ?_
  obtain ⟨k1, _, k2, oe', vs', T', oT', ts', he', ⟨hc', h0'⟩, hd', h1', hn', hTe', hT', hdT', h3'⟩ := fl
  refine hQ h' T' ⟨oe', vs', oT', ts', a0, he', hc', h0', hd', h1', hTe', hT', hdT', h3'⟩ ?_ ⟨fun b o hb hch q => k1 b o (PySem.W.hideAll_get _ q fun z => ?_), fun b o hb q => up b o q (notf hl hb q)⟩
  · rcases trace_new hl hn' hT' hdT' up with z | z
    · rcases List.mem_cons.mp z with z | z
      · exact absurd z hTe'
      · exact .inl (by simpa using z)
    · exact .inr z
  · rcases List.mem_append.mp z with z | z
    · exact hb z
    · exact hch z
end
section
variable {X : Cx} {pins : List (Addr × Obj)} {σ : St} {H : Hp} {s : Shared} {h' : Heap} {ch : List Addr}
structure Ours (X : Cx) (pins : List (Addr × Obj)) (H : Hp) (b : Addr) : Prop where
  new : X.s₀.heap.get? b = none
  free : H b = none
  loc : b ≠ X.env.locals
  cell : ∀ x c, X.env.cells.lookup x = some c → c ≠ b
  pin : ∀ p ∈ X.pn ++ pins, p.1 ≠ b
theorem Inv.ours (I : Inv X pins σ H s) (hx : X.ex = []) {b : Addr} (n : s.heap.get? b = none) : X.s₀.heap.get? b = none ∧ b ≠ X.env.locals ∧ (∀ x c, X.env.cells.lookup x = some c → c ≠ b) ∧ ∀ p ∈ X.pn ++ pins, p.1 ≠ b := by
  refine ⟨?_, ?_, fun x c e z => ?_, fun p hp z => ?_⟩
  · cases q : X.s₀.heap.get? b with
    | none => rfl
    | some o =>
      obtain ⟨o', e⟩ := I.base.there b o q (by rw [hx]; simp)
      rw [n] at e; cases e
  · rintro rfl
    obtain ⟨m, ⟨o, _, _, e, _⟩, _⟩ := I.loc
    rw [n] at e; cases e
  · subst z
    obtain ⟨v, o, e', _⟩ := I.cell x c e
    rw [n] at e'; cases e'
  · have := (I.pin p hp).1
    rw [z, n] at this; cases this
theorem Inv.exc (I : Inv X pins σ H s) (hx : X.ex = []) (ours : ∀ b ∈ ch, Ours X pins H b) (k : Kept X.stack ch s.heap h') : Inv X pins σ H { s with heap := h' } := by
  have sub := I.stkSub
  have above := I.ok.above
  have outs : ∀ b ∈ X.fs, b ∈ frs X.stack := fun b hb => by
    rcases I.ok.stk with e | ⟨e, hf⟩
    · rw [e]; exact hb
    · rw [e]
      show b ∈ frs (X.env :: X.outer)
      unfold frs
      rw [List.filterMap_cons, hf]
      exact List.mem_cons_of_mem _ hb
  have anyk : ∀ b o, b ∉ ch → s.heap.get? b = some o → ∃ sl, h'.get? b = some { o with slots := sl } := fun b o hc q => by
    by_cases hb : b ∈ frs X.stack
    · exact k.slot b o hb q
    · exact ⟨o.slots, k.keep b o hb hc q⟩
  have nch : ∀ b o, X.s₀.heap.get? b = some o → b ∉ ch := fun b o q z => by rw [(ours b z).new] at q; cases q
  have lch : X.env.locals ∉ ch := fun z => (ours _ z).loc rfl
  have cch : ∀ x c, X.env.cells.lookup x = some c → c ∉ ch := fun x c e z => (ours _ z).cell x c e rfl
  have cellK : ∀ x c v, X.env.cells.lookup x = some c → s.heap.IsCell c v → h'.IsCell c v := fun x c v e z => by
    obtain ⟨o, ho, hd⟩ := z
    obtain ⟨sl, q⟩ := anyk c o (cch x c e) ho
    exact ⟨_, q, hd⟩
  refine ⟨I.ok, I.os, I.bare, ⟨fun b o e n hb hxx => ?_, fun b o e n hb hxx => ?_, I.base.free, fun b o e hxx => ?_, I.base.tups, I.base.frzs, I.base.tbls⟩, ?_, fun x c e => ?_, I.free, I.freeC, fun p hp => ?_, ?_, I.len⟩
  · refine k.keep b o (fun z => ?_) (nch b o e) (I.base.keep b o e n hb hxx)
    rcases List.mem_cons.mp (sub b z) with z | z
    · exact absurd (Nat.lt_of_lt_of_le (Heap.lt_size e) above) (by rw [z]; exact Nat.lt_irrefl _)
    · exact hb z
  · obtain ⟨sl, e1⟩ := I.base.slot b o e n hb hxx
    obtain ⟨sl', e2⟩ := k.slot b _ (outs b hb) e1
    exact ⟨sl', e2⟩
  · obtain ⟨o', e1⟩ := I.base.there b o e hxx
    obtain ⟨sl, e2⟩ := anyk b o' (nch b o e) e1
    exact ⟨_, e2⟩
  · obtain ⟨m, ⟨o, es, ep, ho, r⟩, hl⟩ := I.loc
    obtain ⟨sl, q⟩ := anyk _ o lch ho
    refine ⟨m, ⟨_, es, ep, q, r⟩, fun i x v e1 e2 e3 => ?_⟩
    obtain ⟨u, ru, lk⟩ := hl i x v e1 e2 e3
    refine ⟨u, ru, ?_⟩
    rcases lk with z | ⟨z, c, e, ic⟩
    · exact .inl z
    · exact .inr ⟨z, c, e, cellK x c _ e ic⟩
  · obtain ⟨v, z⟩ := I.cell x c e
    exact ⟨v, cellK x c v e z⟩
  · obtain ⟨e, n, ne, nf, d⟩ := I.pin p hp
    refine ⟨k.keep p.1 p.2 (fun z => ?_) (fun z => (ours _ z).pin p hp rfl) e, n, ne, nf, d⟩
    rcases List.mem_cons.mp (sub _ z) with z | z
    · exact ne z
    · exact nf z
  · refine I.hok.part fun b o hb q => k.keep b o (fun z => hb (I.stkFree b z)) (fun z => hb (ours b z).free) q
end
noncomputable def CX1 (P : Program) (w : World) : CXT := fun outer H s E e s' => ∃ (ea T : Addr) (cls : Value) (H' : Hp), e = .ref ea ∧ s.heap.get? ea = none ∧ s.heap.get? T = none ∧ H' ea = none ∧ H' T = none ∧ Tr s'.heap ea T cls ∧
  s'.os = s.os ∧ AllBare s'.gens ∧ Un (frs outer) [] H H' s.heap s'.heap ∧ HOk P w H' s'.heap ∧ E cls none H'
theorem passN {P : Program} {w : World} {X : Cx} : Passes (CX1 P w) X E0 := fun _ _ _ _ _ _ _ ⟨_, _, _, _, _, _, _, _, _, _, _, _, _, _, q⟩ => q.elim
structure Thr (X : Cx) (E : XK) : Prop where
  made : ∀ {pins : List (Addr × Obj)} {σ : St} {H : Hp} {s : Shared} {e : Addr} {cls : Value} {vs : List Value} {h' : Heap}, Inv X pins σ H s → Heap.MadeExcOf s.heap h' e cls vs → E cls none H → X.xe (.ref e) { s with heap := h' }
  pass : Passes (CX1 X.prog X.w) X E
section
variable {P : Program} {w : World} {K : PySem.W.Frag} {mg : Str → Option Value} {base : Heap} {N : List Str} {qual : Str} {scope : Scope} {f : Addr} {cd : Value} {A : Around} {outer : List Env} {s : Shared} {H : Hp} {E : XK}
theorem lies_def {pins : List (Addr × Obj)} {σ : St} {H2 : Hp} {s2 : Shared} {ea T : Addr} {cls : Value} (I : Inv (cxOf (CX1 P w) P w K mg base N qual scope f cd A outer s H E) pins σ H2 s2) (tr : Tr s2.heap ea T cls)
    (n1 : s.heap.get? ea = none) (n2 : s.heap.get? T = none) (f1 : H2 ea = none) (f2 : H2 T = none) (q : E cls none H2) : (cxOf (CX1 P w) P w K mg base N qual scope f cd A outer s H E).xe (.ref ea) s2 := by
  have fr : (A.deeper (envOfC qual scope s.heap.objs.size f cd)).frames = some (envOfC qual scope s.heap.objs.size f cd :: outer) := I.ok.frames
  have above : s.heap.objs.size ≤ (envOfC qual scope s.heap.objs.size f cd).locals := I.ok.above
  have nex : ∀ b : Addr, b ∉ (cxOf (CX1 P w) P w K mg base N qual scope f cd A outer s H E).ex := fun b z => absurd (show b ∈ ([] : List Addr) from z) (by simp)
  have sub : ∀ b ∈ frs (envOfC qual scope s.heap.objs.size f cd :: outer), b = (envOfC qual scope s.heap.objs.size f cd).locals ∨ b ∈ frs outer := fun b hb => List.mem_cons.mp (I.stkSub b hb)
  have out : ∀ b ∈ frs outer, b ∈ frs (envOfC qual scope s.heap.objs.size f cd :: outer) := fun b hb => by
    unfold frs at hb ⊢
    rw [List.filterMap_cons]
    split
    · exact hb
    · exact List.mem_cons_of_mem _ hb
  refine leave_tr fr I.stack rfl tr fun h' T' tr' hT' k => ?_
  have anyk : ∀ b o, b ≠ ea → b ≠ T → s2.heap.get? b = some o → ∃ sl, h'.get? b = some { o with slots := sl } := fun b o h1 h2 z => by
    by_cases hb : b ∈ frs (envOfC qual scope s.heap.objs.size f cd :: outer)
    · exact k.slot b o hb z
    · exact ⟨o.slots, k.keep b o hb (by simp [h1, h2]) z⟩
  have ne : ∀ b o, s.heap.get? b = some o → b ≠ ea ∧ b ≠ T := fun b o z => ⟨fun y => (by rw [y, n1] at z; cases z), fun y => (by rw [y, n2] at z; cases z)⟩
  refine ⟨ea, T', cls, H2, rfl, n1, ?_, f1, ?_, tr', I.os, I.bare, ⟨fun b o z n hb hx => ?_, fun b o z n hb hx => ?_, fun b o z n hx => I.base.free b o z n (nex b), fun b o z hx => ?_, I.base.tups, I.base.frzs, I.base.tbls⟩, ?_, q⟩
  · rcases hT' with z | z
    · rw [z]; exact n2
    · cases y : s.heap.get? T' with
      | none => rfl
      | some o =>
        obtain ⟨o', e'⟩ := I.base.there T' o y (nex _)
        rw [z] at e'; cases e'
  · rcases hT' with z | z
    · rw [z]; exact f2
    · exact I.hok.none z
  · refine k.keep b o (fun y => ?_) (by have := ne b o z; simp [this.1, this.2]) (I.base.keep b o z n hb (nex b))
    rcases sub b y with y | y
    · exact absurd (Nat.lt_of_lt_of_le (Heap.lt_size z) above) (by rw [y]; exact Nat.lt_irrefl _)
    · exact hb y
  · obtain ⟨sl, e1⟩ := I.base.slot b o z n hb (nex b)
    obtain ⟨sl', e2⟩ := k.slot b _ (out b hb) e1
    exact ⟨sl', e2⟩
  · obtain ⟨o', e1⟩ := I.base.there b o z (nex b)
    obtain ⟨sl, e2⟩ := anyk b o' (ne b o z).1 (ne b o z).2 e1
    exact ⟨_, e2⟩
  · refine I.hok.part fun b o hb z => k.keep b o (fun y => hb (I.stkFree b y)) (fun y => ?_) z
    rcases List.mem_cons.mp y with y | y
    · exact hb (by rw [y]; exact f1)
    · exact hb (by rw [show b = T by simpa using y]; exact f2)
theorem thr_def : Thr (cxOf (CX1 P w) P w K mg base N qual scope f cd A outer s H E) E where
  made := fun {pins σ H1 s1 e cls vs h'} I m q => by
    obtain ⟨t, he, htn, ht⟩ := m.there
    have I2 : Inv (cxOf (CX1 P w) P w K mg base N qual scope f cd A outer s H E) pins σ H1 { s1 with heap := h' } := I.kept (t' := s1.toks) m.keeps
    have fr : (A.deeper (envOfC qual scope s.heap.objs.size f cd)).frames = some (envOfC qual scope s.heap.objs.size f cd :: outer) := I.ok.frames
    have above : s.heap.objs.size ≤ (envOfC qual scope s.heap.objs.size f cd).locals := I.ok.above
    have nex : ∀ b : Addr, b ∉ (cxOf (CX1 P w) P w K mg base N qual scope f cd A outer s H E).ex := fun b z => absurd (show b ∈ ([] : List Addr) from z) (by simp)
    have sub : ∀ b ∈ frs (envOfC qual scope s.heap.objs.size f cd :: outer), b = (envOfC qual scope s.heap.objs.size f cd).locals ∨ b ∈ frs outer := fun b hb => List.mem_cons.mp (I.stkSub b hb)
    have out : ∀ b ∈ frs outer, b ∈ frs (envOfC qual scope s.heap.objs.size f cd :: outer) := fun b hb => by
      unfold frs at hb ⊢
      rw [List.filterMap_cons]
      split
      · exact hb
      · exact List.mem_cons_of_mem _ hb
    have n1 : s.heap.get? e = none := (I.ours rfl m.new).1
    refine leave_new1 (cls := cls) fr I2.stack rfl he rfl rfl rfl rfl fun h2 T' tr' hT' k => ?_
    have anyk : ∀ b o, b ≠ e → h'.get? b = some o → ∃ sl, h2.get? b = some { o with slots := sl } := fun b o h1 z => by
      by_cases hb : b ∈ frs (envOfC qual scope s.heap.objs.size f cd :: outer)
      · exact k.slot b o hb z
      · exact ⟨o.slots, k.keep b o hb (by simp [h1]) z⟩
    have ne : ∀ b o, s.heap.get? b = some o → b ≠ e := fun b o z y => by rw [y, n1] at z; cases z
    refine ⟨e, T', cls, H1, rfl, n1, (I2.ours rfl hT').1, I.hok.none m.new, I2.hok.none hT', tr', I.os, I.bare, ⟨fun b o z n hb hx => ?_, fun b o z n hb hx => ?_, fun b o z n hx => I.base.free b o z n (nex b), fun b o z hx => ?_, I.base.tups, I.base.frzs, I.base.tbls⟩, ?_, q⟩
    · refine k.keep b o (fun y => ?_) (by simp [ne b o z]) (I2.base.keep b o z n hb (nex b))
      rcases sub b y with y | y
      · exact absurd (Nat.lt_of_lt_of_le (Heap.lt_size z) above) (by rw [y]; exact Nat.lt_irrefl _)
      · exact hb y
    · obtain ⟨sl, e1⟩ := I2.base.slot b o z n hb (nex b)
      obtain ⟨sl', e2⟩ := k.slot b _ (out b hb) e1
      exact ⟨sl', e2⟩
    · obtain ⟨o', e1⟩ := I2.base.there b o z (nex b)
      obtain ⟨sl, e2⟩ := anyk b o' (ne b o z) e1
      exact ⟨_, e2⟩
    · refine I2.hok.part fun b o hb z => k.keep b o (fun y => hb (I.stkFree b y)) (fun y => ?_) z
      exact hb (by rw [show b = e by simpa using y]; exact I.hok.none m.new)
  pass := fun pins σ H1 s1 e s2 I hcx => by
    obtain ⟨ea, T, cls, H2, rfl, n1, n2, f1, f2, tr, os, bare, un, hok, q⟩ := hcx
    have I2 := I.call' os un hok bare fun b z => absurd z (by simp)
    exact lies_def I2 tr (I.ours rfl n1).1 (I.ours rfl n2).1 f1 f2 q
end
section
variable {P : Program} {w : World} {K : PySem.W.Frag} {mg : Str → Option Value} {base : Heap}
theorem FnOk.up {CX : CXT} {k : Nat} {f : Addr} {fd : FuncData} {ps : List Str} {sp : Sp} (F : FnOk P w K mg base CX0 k f fd ps sp) : FnOk P w K mg base CX k f fd ps sp :=
  ⟨F.len, fun A outer s H args us vs Q E hr he hb hv hs => codeAny_mono (F.run A outer s H args us vs Q E hr he hb hv hs) fun r s' q => by
    cases r with
    | error e => exact False.elim q
    | ok fl => cases fl <;> exact q⟩
theorem Fun.okE {x qual : Str} {st : Stmt} {f : Addr} {fd : FuncData} {N ps : List Str} {k : Nat} {sp : Sp} (F : Fun K x qual st f fd) (S : FnScope N ps (defScope st)) (len : ∀ vs H Q E, sp vs H Q E → vs.length = ps.length)
    (hbody : ∀ (cdv : Value) (A : Around) (outer : List Env) (s : Shared) (H : Hp) (vs : List V) (Q : VK) (E : XK), Room k (A.deeper (envOfC qual (defScope st) s.heap.objs.size f cdv)) → sp vs H Q E →
      ∃ t, PSs (cxOf (CX1 P w) P w K mg base N qual (defScope st) f cdv A outer s H E) (defBody st) t ∧ t { nx := fun _ H' => Q .non H', rt := Q } (start N vs) H) : FnOk P w K mg base (CX1 P w) (k + 1) f fd ps sp := by
  obtain ⟨oc, od, kV, doc, pm, an, cdv, ct, osl, rfl, lk, hcd⟩ := F.ex
  exact fn_of lk hcd S len fun A outer s H vs Q E hr hsp => hbody cdv A outer s H vs Q E hr hsp
end
noncomputable abbrev veB : List Value := [.type "ValueError", .type "Exception", .type "BaseException", .type "object"]
noncomputable abbrev excI (K : PySem.W.Frag) (C : Addr) : Prop := PySem.W.excIn K C veB "ValueError.__new__" = true
theorem excObj {K : PySem.W.Frag} {h : Heap} {C : Addr} (X : K.In h) (q : excI K C) : ∃ bm N nm qn bs hd sn sub ab col dd k0 k1 k2 k3 k5 mN,
    h.get? C = some (excClassObj nm qn C N bs bm hd sn sub ab col dd k0 k1 k2 k3 k5 "ValueError.__new__") ∧ h.Ns N mN ∧ mN "__init__" = none ∧ OwnTail h veB bm := by
  unfold excI PySem.W.excIn at q
  split at q
  · rename_i dd cd sl ho
    split at q
    · rename_i C' bm k0 k1 k2 k3 n k5 hm hs
      obtain ⟨q5, q6⟩ := Bool.and_eq_true_iff.mp q
      obtain ⟨q4, hok⟩ := Bool.and_eq_true_iff.mp q5
      obtain ⟨q3, ht⟩ := Bool.and_eq_true_iff.mp q4
      obtain ⟨q2, hdel⟩ := Bool.and_eq_true_iff.mp q3
      obtain ⟨e1, e2⟩ := Bool.and_eq_true_iff.mp q2
      have e1 := beq_iff_eq.mp e1
      have e2 := beq_iff_eq.mp e2
      have hni := beq_iff_eq.mp q6
      subst e1 e2
      obtain ⟨nm, bs, mro, ns, qn, hd, sn, sub, ab, col, del⟩ := cd
      have hsl : sl = #[k0, k1, k2, k3, some (.builtin "ValueError.__new__"), k5] := by
        rw [← hs]
      have hdel' : del = false := by simpa using hdel
      have hm' : mro = .ref C' :: bm := hm
      subst hm' hdel' hsl
      exact ⟨bm, ns, nm, qn, bs, hd, sn, sub, ab, col, dd, k0, k1, k2, k3, k5, _, X _ _ ho, .of_isNs (PySem.W.isNs_of_in X hok), PySem.W.nsMap_none_of_in X hok hni, PySem.W.tail_of_in X ht⟩
    · cases q
  · cases q
noncomputable def tRaise (E : XK) (C : Addr) (t : TA) : TS := fun _ σ H => t σ H fun vs H1 => vs.length ≤ sizeLine ∧ E (.ref C) none H1
theorem ps_raise {X : Cx} {E : XK} {C : Addr} {x : Str} {np cpos pos : Pos} {a : Expr} {ta : TA} (T : Thr X E) (O : excI X.K C) (hg : Gl X x) (hm : X.mg x = some (.ref C)) (ha : PA X [a] ta) (hc : X.calm = true := by rfl)
    (hs : starEach [a] X.env = [(false, eval a X.env)] := by rfl) (hd : (x == ("__debug__" : Str)) = false := by decide) : PS X (.Raise (some (.Call (.Name x np) [a] [] cpos)) none pos) (tRaise E C ta) := by
  intro pins s σ H D I h
  obtain ⟨bm, N, nm, qn, bs, hd', sn, sub, ab, col, dd, k0, k1, k2, k3, k5, mN, hC, hN, hni, TL⟩ := excObj I.ok.mod.kin O
  refine wpAny_Raise_call_subT (C := C) (nm := nm) (q := qn) (N := N) (bs := bs) (bm := bm) (hdct := hd') (sn := sn) (sub := sub) (ab := ab) (col := col) (dd := dd) (k0 := k0) (k1 := k1) (k2 := k2) (k3 := k3) (k5 := k5)
    PySem.F.excBase_ValueError (mN := mN) (TL.hasType PySem.F.excBase_ValueError.hasBase) (I.ok.hd hc) (by rw [hs]; rfl) hni (ld_glob I hg hm ⟨rfl, ?_⟩ hd)
  have p := ha cpos pins s σ H _ I h
  rw [hs] at p ⊢
  exact Calls.evalArgs_plain (thn p fun us s1 ⟨vs, H1, I1, r, q⟩ => ⟨rfl, by rw [← r.length]; exact q.1, I1.bk _ _ hC, hN.keeps I1.bk, TL.keeps I1.bk, fun h' e m => T.made I1 m q.2⟩)
noncomputable def Cx.inExc (X : Cx) (e : Addr) : Cx := { X with A := X.A.mark (some (.ref e)), calm := false, xe := fun _ _ => False }
section
variable {X : Cx} {pins : List (Addr × Obj)} {σ : St} {H : Hp} {s : Shared} {e : Addr}
theorem Inv.inExc (I : Inv X pins σ H s) (e : Addr) : Inv (X.inExc e) pins σ H s :=
  ⟨⟨I.ok.mod, I.ok.kind, I.ok.glob, I.ok.blt, I.ok.above, I.ok.inj, I.ok.has, I.ok.cab, fun z => (by cases z), I.ok.frames, I.ok.stk, I.ok.exf, I.ok.bs, I.ok.bsz, I.ok.noex, I.ok.exfs, I.ok.funs, I.ok.frf⟩, I.os, I.bare, I.base, I.loc, I.cell, I.free, I.freeC, I.pin, I.hok, I.len⟩
theorem Inv.outExc (ok : X.Ok) (I : Inv (X.inExc e) pins σ H s) : Inv X pins σ H s := ⟨ok, I.os, I.bare, I.base, I.loc, I.cell, I.free, I.freeC, I.pin, I.hok, I.len⟩
end
noncomputable def PEx (X : Cx) (e : Expr) (t : XK → TE) : Prop := ∀ (E : XK) (σ : St) (pn' : List (Addr × Obj)) (xe' : Value → Shared → Prop),
  (∀ (pins : List (Addr × Obj)) (H : Hp) (s : Shared) (v : Value) (s' : Shared), Inv { X with pn := pn', xe := xe' } pins σ H s → CX1 X.prog X.w X.stack H s E v s' → xe' v s') →
  ∀ (pins : List (Addr × Obj)) (s : Shared) (H : Hp) (Q : VK), Inv { X with pn := pn', xe := xe' } pins σ H s → t E σ H Q → wpAny (model X.prog X.w) X.A (eval e X.env) (EP { X with pn := pn', xe := xe' } pins σ Q) xe' s
theorem run_at {X : Cx} {CX : CXT} {k : Nat} {f : Addr} {fd : FuncData} {ps : List Str} {sp : Sp} {E : XK} {pins : List (Addr × Obj)} {σ : St} {H : Hp} {s : Shared} {Q : VK} {us : List Value} {vs : List V}
    (F : FnOk X.prog X.w X.K X.mg X.base CX k f fd ps sp) (hr : Room k X.A) (hb : Binds X.K fd ps []) (hx : ∀ (pins : List (Addr × Obj)) (H : Hp) (s : Shared) (v : Value) (s' : Shared), Inv X pins σ H s → CX X.stack H s E v s' → X.xe v s')
    (I : Inv X pins σ H s) (r : Vals vs us) (h : sp vs H Q E) : wpAny (model X.prog X.w) X.A (call (.ref f) us) (EP X pins σ Q) X.xe s := by
  have hl : us.length = ps.length := by rw [← r.length]; exact F.len _ _ _ _ h
  have hb' := hb s us I.kIn (by rw [List.append_nil]; exact hl)
  rw [List.append_nil] at hb'
  refine wpAny_call (codeAny_mono (F.run X.A X.stack s H ⟨us, []⟩ us vs Q E hr I.env0 hb' r h) fun r s' hq => ?_)
  cases r with
  | error v => exact hx pins H s v s' I hq
  | ok fl => cases fl <;> first | exact I.after hq | exact False.elim hq
end L2
set_option Elab.async false
set_option linter.all false
set_option maxRecDepth 100000
set_option maxHeartbeats 4000000
namespace L2
open PySem PySem.Spec PyProof.Rows
structure Def (P : Program) (w : World) (K : PySem.W.Frag) (mg : Str → Option Value) (base : Heap) (x : Str) (ps : List Str) (k : Nat) (sp : Sp) (f : Addr) (fd : FuncData) : Prop where
  ok : FnOk P w K mg base (CX1 P w) k f fd ps sp
  b : Binds K fd ps []
  kp : PySem.W.keepIn K (.ref f) = true
  m : mg x = some (.ref f)
section
variable {X : Cx} {f : Addr} {fd : FuncData} {ps : List Str} {sp : Sp} {x : Str} {p pos : Pos} {e : Expr} {es : List Expr} {t : TA} {j k : Nat}
theorem pcall (D : Def X.prog X.w X.K X.mg X.base x ps j sp f fd) (hr : Room k X.A) (ha : PA X (e :: es) t) (hjk : j ≤ k := by decide) (hg : Gl X x := by rfl)
    (hdb : (x == ("__debug__" : Str)) = false := by decide) (he : starEach (e :: es) X.env = (false, eval e X.env) :: starEach es X.env := by rfl) (hpl : (backTo pos (starEach es X.env)).any (·.1) = false := by rfl) :
    PE X (.Call (.Name x p) (e :: es) [] pos) (tCall sp [] E0 t) := pe_call D.ok (hr.mono hjk) hg D.m D.kp D.b .nil passN ha hdb he hpl
end
theorem bb_isinstance : bootBuiltins "isinstance" = some (.builtin "isinstance") := by decide +kernel
theorem bb_int : bootBuiltins "int" = some (.type "int") := by decide +kernel
theorem bb_bool : bootBuiltins "bool" = some (.type "bool") := by decide +kernel
theorem bb_list : bootBuiltins "list" = some (.type "list") := by decide +kernel
theorem bb_min : bootBuiltins "min" = some (.builtin "min") := by decide +kernel
theorem bb_sum : bootBuiltins "sum" = some (.builtin "sum") := by decide +kernel
theorem bb_len : bootBuiltins "len" = some (.builtin "len") := by decide +kernel
theorem Same.upd {H H' : Hp} (h : Same H H') {p : Addr} (n : H p = none) (o : HO) : Same H (L2.upd H' p o) := fun b u q => by
  rw [upd_ne (ne_of_none q n)]; exact h b u q
theorem Same.new {H H' : Hp} (h : Same H H') {p : Addr} (n : H' p = none) (o : HO) : Same H (L2.upd H' p o) := h.trans fun b u q => by
  rw [upd_ne (ne_of_none q n)]; exact q
theorem sz {n : Nat} (h : n ≤ 1000000) : n ≤ sizeLine := Nat.le_trans h (by decide)
theorem sz' {n : Nat} (h : n ≤ 1000000) : n < sizeLine := Nat.lt_of_le_of_lt h (by decide)
theorem kit_int_int {K : PySem.W.Frag} : PySem.W.kitOne K (.type "int") (.type "int") = some true := by rfl
theorem kit_bool_bool {K : PySem.W.Frag} : PySem.W.kitOne K (.type "bool") (.type "bool") = some true := by rfl
theorem kit_int_bool {K : PySem.W.Frag} : PySem.W.kitOne K (.type "int") (.type "bool") = some false := by rfl
theorem atI_int {ns : List Int} {i : Int} (h0 : 0 ≤ i) (h1 : i < (ns.length : Int)) : atI (ns.map V.int) i = some (.int (ns.getD i.toNat 0)) := by
  have hk : i.toNat < ns.length := by omega
  have ek : i = ((i.toNat : Nat) : Int) := by omega
  have q : atI (ns.map V.int) ((i.toNat : Nat) : Int) = some (.int (ns.getD i.toNat 0)) := atI_nat (by rw [List.getElem?_map, List.getD_eq_getElem?_getD, List.getElem?_eq_getElem hk] <;> rfl)
  rw [← ek] at q
  exact q
end L2
namespace L2
open PySem PySem.Spec PyProof.Rows
theorem ttN {σ : St} {H : Hp} {F : Bool → Hp → Prop} (h : F true H) : ttNil σ H F := h
theorem pm {j : Int} (h : 0 < j) : 0 < j := h
noncomputable def cutI (ns : List Int) (lo hi : Option Int) : List Int := (ns.drop (HT.sIx ns.length 0 lo)).take (HT.sIx ns.length ns.length hi - HT.sIx ns.length 0 lo)
theorem cutV_map (ns : List Int) (lo hi : Option Int) : cutV (ns.map V.int) lo hi = (cutI ns lo hi).map V.int := by
  unfold cutV cutI
  rw [List.length_map, List.map_take, List.map_drop]
theorem get_int {ns : List Int} {i : Nat} {x : V} (h : (ns.map V.int)[i]? = some x) : ∃ c, x = .int c := by
  rw [List.getElem?_map] at h
  cases e : ns[i]? with
  | none => rw [e] at h; cases h
  | some c => rw [e] at h; cases h; exact ⟨c, rfl⟩
end L2
namespace L2
open PySem PySem.Spec PyProof.Rows
noncomputable def tCut (t u : TS) : TS := fun D σ H => ∃ P : St → Hp → Prop, t { D with nx := P } σ H ∧ ∀ σ' H', P σ' H' → u D σ' H'
theorem pss_cut {X : Cx} {st : Stmt} {rest : List Stmt} {t u : TS} (h1 : PS X st t) (h2 : PSs X rest u) : PSs X (st :: rest) (tCut t u) := by
  intro pins s σ H D I h
  obtain ⟨P, ha, hb⟩ := h
  refine wpAny_execs_cons (thn (h1 pins s σ H { D with nx := P } I ha) fun f s1 q => ?_)
  cases f with
  | next =>
    obtain ⟨σ', H', I', q⟩ := q
    exact h2 pins s1 σ' H' D I' (hb σ' H' q)
  | ret v => exact q
  | brk => exact q
  | cont => exact q
theorem iteP {c A B : Prop} [Decidable c] (hc : c) (h : A) : if decide c = true then A else B := by rw [decide_eq_true hc]; exact iteT h
theorem iteN {c A B : Prop} [Decidable c] (hc : ¬ c) (h : B) : if decide c = true then A else B := by rw [decide_eq_false hc]; exact iteF h
theorem ixN_nat {n : Nat} {i : Int} (h0 : 0 ≤ i) (h1 : i < n) : ixN n i = some i.toNat := by unfold ixN; rw [if_pos h0, if_pos h1]
theorem cutI_length (ns : List Int) (lo hi : Option Int) : (cutI ns lo hi).length ≤ ns.length := by
  unfold cutI; rw [List.length_take, List.length_drop]; omega
end L2
namespace Ck
noncomputable def shL : Nat → List Int
  | 0 => [1]
  | k + 1 => shL k ++ [((List.range (k + 1)).map fun j => (shL k).getD j 0 * (shL k).getD (k - j) 0).sum]
noncomputable def sh (k : Nat) : Int := (shL k).getD k 0
end Ck
namespace Ck
noncomputable def r : Nat → Nat → Int
  | 0, _ => 1
  | _ + 1, 0 => 0
  | u + 1, d + 1 => if d < u then 0 else r u (d + 1) + r (u + 1) d
noncomputable def row (n u : Nat) : List Int := (List.range (n + 1 - u)).map fun i => r u (u + i)
noncomputable def pw (a : Int) : Nat → Int
  | 0 => 1
  | k + 1 => pw a k * a
end Ck
namespace Ck
noncomputable def lt : List Nat → List Nat → Bool
  | c :: s, e :: t => if c = e then lt s t else c == 40
  | _, _ => false
end Ck
set_option Elab.async false
set_option linter.all false
set_option maxRecDepth 100000
set_option maxHeartbeats 4000000
namespace Ck
open PySem
noncomputable def ix (n d : Nat) : Option Int → Nat
  | none => d
  | some v => if v < 0 then (v + (n : Int)).toNat else min v.toNat n
end Ck
set_option Elab.async false
set_option linter.all false
set_option maxRecDepth 100000
set_option maxHeartbeats 4000000
namespace Ck
open PySem L2
end Ck
namespace L2
open PySem
theorem cutI_tail (ns : List Int) : cutI ns (some 1) none = ns.drop 1 := by
  unfold cutI
  have e1 : HT.sIx ns.length 0 (some 1) = min 1 ns.length := HT.sIx_nat _ _ 1
  rw [e1, HT.sIx_none]
  cases ns with
  | nil => rfl
  | cons a r =>
    have e2 : min 1 (a :: r).length = 1 := by simp
    rw [e2]
    exact List.take_of_length_le (by simp)
end L2
namespace Ck
open PySem L2
end Ck
namespace L2
open PySem PySem.Spec PyProof.Rows
end L2
namespace Ck
open PySem L2
end Ck
set_option Elab.async false
set_option linter.all false
set_option maxRecDepth 100000
set_option maxHeartbeats 4000000
namespace L2
open PySem PySem.Spec PyProof.Rows
section
variable {X : Cx} {tg : Expr}
end
noncomputable def eqL : List V → List V → Bool
  | [], [] => true
  | x :: xs, y :: ys => eqV x y && eqL xs ys
  | _, _ => false
theorem eqL_len : ∀ {xs ys : List V}, xs.length ≠ ys.length → eqL xs ys = false
  | [], [], h => absurd rfl h
  | [], _ :: _, _ => rfl
  | _ :: _, [], _ => rfl
  | x :: xs, y :: ys, h => by
    rw [eqL, eqL_len (xs := xs) (ys := ys) (by simpa using h), Bool.and_false]
theorem eqL_all : ∀ {xs ys : List V}, xs.length = ys.length → (List.range xs.length).all (fun j => eqV (xs.getD j .non) (ys.getD j .non)) = eqL xs ys
  | [], [], _ => rfl
  | x :: xs, y :: ys, h => by
    rw [eqL, ← eqL_all (xs := xs) (ys := ys) (by simpa using h), List.length_cons, List.range_succ_eq_map, List.all_cons, List.all_map]
    rfl
noncomputable def rEqL (K : PySem.W.Frag) (neg : Bool) : R2 := fun x y H Q => ∃ a b xs ys, x = .ref a ∧ y = .ref b ∧ SqL K H a xs ∧ SqL K H b ys ∧ xs.all flatV = true ∧ ys.all flatV = true ∧ Q (.bl (if neg then !eqL xs ys else eqL xs ys)) H
section
variable {X : Cx}
theorem items_eqAt {A : Around} {s : Shared} {xs ys : List V} {us vs : List Value} (r : Vals xs us) (r' : Vals ys vs) (fx : xs.all flatV = true) (fy : ys.all flatV = true) :
    ∀ j (h1 : j < us.toArray.size) (h2 : j < vs.toArray.size), SeqAt.EqAt A s us.toArray[j] vs.toArray[j] (eqV (xs.getD j .non) (ys.getD j .non)) := fun j h1 h2 => by
  have l1 := r.length
  have l2 := r'.length
  have h1' : j < us.length := by simpa using h1
  have h2' : j < vs.length := by simpa using h2
  obtain ⟨u, eu, ru⟩ := r.get (List.getElem?_eq_getElem (show j < xs.length by omega))
  obtain ⟨v, ev, rv⟩ := r'.get (List.getElem?_eq_getElem (show j < ys.length by omega))
  have e1 : us.toArray[j] = u := by
    rw [List.getElem?_eq_getElem h1'] at eu
    simpa using eu
  have e2 : vs.toArray[j] = v := by
    rw [List.getElem?_eq_getElem h2'] at ev
    simpa using ev
  rw [e1, e2]
  have g1 : xs.getD j .non = xs[j]'(by omega) := by rw [List.getD_eq_getElem?_getD, List.getElem?_eq_getElem (show j < xs.length by omega)]; rfl
  have g2 : ys.getD j .non = ys[j]'(by omega) := by rw [List.getD_eq_getElem?_getD, List.getElem?_eq_getElem (show j < ys.length by omega)]; rfl
  rw [g1, g2]
  exact eqAt_V ru rv (List.all_eq_true.mp fx _ (List.getElem_mem _)) (List.all_eq_true.mp fy _ (List.getElem_mem _))
theorem op_eq_list (hu : X.A.units < cLine) : OpR X (compareOp .Eq) (rEqL X.K false) := by
  intro pins s σ H x y v u Q I rx ry h
  obtain ⟨a, b, xs, ys, rfl, rfl, ha, hb, fx, fy, q⟩ := h
  cases rx
  cases ry
  obtain ⟨us, r, pl, hz⟩ := I.list ha
  obtain ⟨vs, r', pl', hz'⟩ := I.list hb
  have l1 := r.length
  have l2 := r'.length
  by_cases hl : xs.length = ys.length
  · refine SeqAt.eq_listAt (e := fun j => eqV (xs.getD j .non) (ys.getD j .non)) pl.isList pl'.isList (by simp; omega) hu (items_eqAt r r' fx fy) ⟨.bl _, H, I, rfl, ?_⟩
    rw [show us.toArray.size = xs.length by simp; omega, eqL_all hl]
    exact q
  · refine SeqAt.eq_list_lengthsAt pl.isList pl'.isList (by simp; omega) hu ⟨.bl false, H, I, rfl, ?_⟩
    rw [← eqL_len hl]
    exact q
end
end L2
set_option Elab.async false
set_option linter.all false
set_option maxRecDepth 100000
set_option maxHeartbeats 4000000
namespace L2
open PySem PySem.Spec PyProof.Rows PySem.W Builtin Builtin.ObjectAttr Builtin.Getset_descriptor
section
variable {K : Frag} {e C : Addr} {M : Model} {h : Heap} {prog : Program} {w : World} {A : Around} {E : Value → Shared → Prop} {s : Shared}
end
section
variable {K : Frag} {e C : Addr} {M : Model} {h : Heap} {prog : Program} {w : World} {A : Around} {E : Value → Shared → Prop} {s : Shared}
end
section
variable {X : Cx}
theorem hu0 {A : Around} {k : Nat} (hr : Room k A) : A.units < cLine := Nat.lt_of_succ_lt (hu_of hr)
end
end L2
namespace Ck
open PySem L2
end Ck
set_option Elab.async false
set_option linter.all false
set_option maxRecDepth 100000
set_option maxHeartbeats 4000000
namespace L2
open PySem PySem.Spec PyProof.Rows
structure MDef (P : Program) (w : World) (K : PySem.W.Frag) (mg : Str → Option Value) (base : Heap) (ps : List Str) (k : Nat) (sp : Sp) (f : Addr) (fd : FuncData) : Prop where
  ok : FnOk P w K mg base (CX1 P w) k f fd ps sp
  b : Binds K fd ps []
section
variable {X : Cx} {C f : Addr} {fd : FuncData} {ps : List Str} {sp : Sp} {m : Str} {apos pos : Pos} {o e : Expr} {es : List Expr} {ta : TE} {t : TA} {j k : Nat}
theorem pmeth {pl : Sem Bool} (ho : PE X o ta) (c : Cls X.K C) (hm : Meth X.K C m f) (D : MDef X.prog X.w X.K X.mg X.base ps j sp f fd) (hr : Room k X.A) (ha : PA X (e :: es) t) (hjk : j ≤ k := by decide)
    (hst : starEach (e :: es) X.env = (false, eval e X.env) :: starEach es X.env := by rfl) (hpl : (backTo pos (starEach es X.env)).any (·.1) = false := by rfl)
    (ht : eval (.Call (.Attribute o m apos) (e :: es) [] pos) X.env = (do
      let ov ← eval o X.env
      standAt apos.atName
      let (f, first) ← holding [ov] (getMethod ov m pl)
      callWith pos f first (backTo pos (starEach (e :: es) X.env)) (backToKw pos (keywordEach [] X.env))) := by rfl) :
    PE X (.Call (.Attribute o m apos) (e :: es) [] pos) (tMeth C m sp [] E0 ta t) := pe_meth ho c hm D.ok (hr.mono hjk) D.b .nil passN ha hst hpl ht
theorem pmethT {E : XK} (T : Thr X E) {pl : Sem Bool} (ho : PE X o ta) (c : Cls X.K C) (hm : Meth X.K C m f) (D : MDef X.prog X.w X.K X.mg X.base ps j sp f fd) (hr : Room k X.A) (ha : PA X (e :: es) t) (hjk : j ≤ k := by decide)
    (hst : starEach (e :: es) X.env = (false, eval e X.env) :: starEach es X.env := by rfl) (hpl : (backTo pos (starEach es X.env)).any (·.1) = false := by rfl)
    (ht : eval (.Call (.Attribute o m apos) (e :: es) [] pos) X.env = (do
      let ov ← eval o X.env
      standAt apos.atName
      let (f, first) ← holding [ov] (getMethod ov m pl)
      callWith pos f first (backTo pos (starEach (e :: es) X.env)) (backToKw pos (keywordEach [] X.env))) := by rfl) :
    PE X (.Call (.Attribute o m apos) (e :: es) [] pos) (tMeth C m sp [] E ta t) := pe_meth ho c hm D.ok (hr.mono hjk) D.b .nil T.pass ha hst hpl ht
theorem px_meth {pl : Sem Bool} (ho : ∀ (pn' : List (Addr × Obj)) (xe' : Value → Shared → Prop), PE { X with pn := pn', xe := xe' } o ta) (c : Cls X.K C) (hm : Meth X.K C m f) (D : MDef X.prog X.w X.K X.mg X.base ps j sp f fd) (hr : Room k X.A)
    (ha : ∀ (pn' : List (Addr × Obj)) (xe' : Value → Shared → Prop), PA { X with pn := pn', xe := xe' } (e :: es) t) (hjk : j ≤ k := by decide)
    (hst : starEach (e :: es) X.env = (false, eval e X.env) :: starEach es X.env := by rfl) (hpl : (backTo pos (starEach es X.env)).any (·.1) = false := by rfl)
    (ht : eval (.Call (.Attribute o m apos) (e :: es) [] pos) X.env = (do
      let ov ← eval o X.env
      standAt apos.atName
      let (f, first) ← holding [ov] (getMethod ov m pl)
      callWith pos f first (backTo pos (starEach (e :: es) X.env)) (backToKw pos (keywordEach [] X.env))) := by rfl) :
    PEx X (.Call (.Attribute o m apos) (e :: es) [] pos) (fun E => tMeth C m sp [] E ta t) := by
  intro E σ pn' xe' hp pins s H Q I h
  refine PySem.W.methodCall_KW (pl := pl) (thn (ho pn' xe' pins s σ H _ I h) fun u s1 ⟨x, H1, I1, rx, a, dx, fs, ex, ea, l, q⟩ => ?_) ht
  subst ex
  obtain rfl : u = Value.ref a := rx
  refine getmeth_ok (X := { X with pn := pn', xe := xe' }) I1 ea c hm l ?_
  refine PySem.W.callWith_K (first := [.ref a]) (h₀ := X.base) I.ok.mod.kin hm.kp (thn (ha pn' xe' pos pins s1 σ H1 _ I1 q) fun us s2 ⟨vs, H2, I2, r, q2⟩ => ⟨I2.kIn, ?_⟩) hst hpl
  have q3 : sp (.ref a :: (vs ++ [])) H2 Q E := q2
  rw [List.append_nil] at q3
  exact run_at (X := { X with pn := pn', xe := xe' }) (us := .ref a :: us) (vs := .ref a :: vs) D.ok (hr.mono hjk) D.b hp I2 (.cons rfl r) q3
end
noncomputable def tTryNo (K : PySem.W.Frag) (Ck : Addr) (tb : XK → TE) (ts : TS) : TS := fun D σ H =>
  tb (fun cls _ H1 => PySem.W.exmOne K cls (.ref Ck) = some true ∧ ts D σ H1) σ H fun _ H1 => D.nx σ H1
theorem ps_tryNo {X : Cx} {call : Expr} {tb : XK → TE} {c : Str} {Ck : Addr} {b₀ : Stmt} {suite : List Stmt} {ts : TS} {ep cp hp pos : Pos}
    (hx : X.ex = []) (hst : X.stack = X.env :: X.outer) (hf : X.env.frame = some X.env.locals) (hg : Gl X c) (hm : X.mg c = some (.ref Ck))
    (hb : PEx X call tb) (hs : ∀ e, PSs (X.inExc e) (b₀ :: suite) ts) (hsw : swapsWith call none ep.line X.env = pure false := by rfl) (hd : (c == ("__debug__" : Str)) = false := by decide) :
    PS X (.Try [.Expr call ep] [.ExceptHandler (some (.Name c cp)) none (b₀ :: suite) hp] [] [] pos) (tTryNo X.K Ck tb ts) := by
  intro pins s σ H D I h
  refine wpAny_Try_except ?_
  unfold tTryNo at h
  generalize hE : (fun (cls : Value) (_ : Option Addr) (H1 : Hp) => PySem.W.exmOne X.K cls (.ref Ck) = some true ∧ ts D σ H1) = E at h
  have ok' : ∀ xe', ({ X with pn := X.pn ++ pins, xe := xe' } : Cx).Ok := fun xe' =>
    ⟨I.ok.mod, I.ok.kind, I.ok.glob, I.ok.blt, I.ok.above, I.ok.inj, I.ok.has, I.ok.cab, I.ok.hd, I.ok.frames, I.ok.stk, I.ok.exf, I.ok.bs, I.ok.bsz, I.ok.noex, I.ok.exfs, I.ok.funs, I.ok.frf⟩
  have toX : ∀ {xe' pins' σ' H' s'}, Inv ({ X with pn := X.pn ++ pins, xe := xe' } : Cx) pins' σ' H' s' → Inv X pins σ' H' s' := fun J =>
    ⟨I.ok, J.os, J.bare, J.base, J.loc, J.cell, J.free, J.freeC, fun p hp => J.pin p (List.mem_append_left _ hp), J.hok, J.len⟩
  have I' : Inv ({ X with pn := X.pn ++ pins, xe := fun v s' => ∃ H1 s1, Inv X pins σ H1 s1 ∧ CX1 X.prog X.w X.stack H1 s1 E v s' } : Cx) [] σ H s :=
    ⟨ok' _, I.os, I.bare, I.base, I.loc, I.cell, I.free, I.freeC, fun p hp => I.pin p (by simpa using hp), I.hok, I.len⟩
  have body := hb E σ (X.pn ++ pins) (fun v s' => ∃ H1 s1, Inv X pins σ H1 s1 ∧ CX1 X.prog X.w X.stack H1 s1 E v s') (fun pins' H1 s1 v s' J q => ⟨H1, s1, toX J, q⟩) [] s H _ I' h
  refine wpAny_mono (wpAny_execs_cons (wpAny_Expr_any (thn body fun v s1 q => ?_) I.quiet hsw) : wpAny (model X.prog X.w) X.A (execs [.Expr call ep] X.env) (fun f s1 => f = .next ∧ ∃ H1, Inv X pins σ H1 s1 ∧ D.nx σ H1) _ s) (fun f s1 q => ?_) ?_
  · obtain ⟨x, H1, J, r, q⟩ := q
    exact wpAny_execs_nil ⟨rfl, H1, toX J, q⟩
  · obtain ⟨rfl, H1, J, q⟩ := q
    exact wpAny_execs_nil ⟨σ, H1, J, q⟩
  · rintro v s' ⟨H1, s1, I1, ea, T, cls, H2, rfl, n1, n2, f1, f2, tr, os, bare, un, hok, hE'⟩
    rw [← hE] at hE'
    obtain ⟨hmt, hsu⟩ := hE'
    have I2 : Inv X pins σ H2 s' := I1.call' os un hok bare fun b z => absurd z (by simp)
    have o1 := I1.ours hx n1
    have o2 := I1.ours hx n2
    have u1 : Ours X pins H2 ea := ⟨o1.1, f1, o1.2.1, o1.2.2.1, o1.2.2.2⟩
    have u2 : Ours X pins H2 T := ⟨o2.1, f2, o2.2.1, o2.2.2.1, o2.2.2.2⟩
    have fr : X.A.frames = some (X.env :: X.outer) := by rw [← hst]; exact I.ok.frames
    have fn : s'.heap.FunFrames X.base (X.env :: X.outer) := by rw [← hst]; exact I2.stack
    refine look_tr fr fn hf tr fun h3 T3 tr3 hT3 k3 => ?_
    have I3 : Inv X pins σ H2 { s' with heap := h3 } := I2.exc hx (ch := [ea, T]) (fun b hb => by
      rcases List.mem_cons.mp hb with z | z
      · rw [z]; exact u1
      · rw [show b = T by simpa using z]; exact u2) (by rw [hst]; exact k3)
    have u3 : Ours X pins H2 T3 := by
      rcases hT3 with z | z
      · rw [z]; exact u2
      · have o3 := I2.ours hx z
        exact ⟨o3.1, I2.hok.none z, o3.2.1, o3.2.2.1, o3.2.2.2⟩
    have LT : PySem.W.Looks (model X.prog X.w) h3 (typeOf (.ref ea)) cls := by
      obtain ⟨oe, vs, oT, ts, a0, he, hc, _⟩ := tr3
      subst hc
      exact (PySem.W.Looks.ld he).andThen .now
    refine wpAny_handleBy_cons (codeAny_handlers_test (ld_glob (I3.inExc ea) hg hm ?_ hd)) (by intro q; cases q)
    refine (PySem.W.exm_one (M := model X.prog X.w) I3.kIn LT hmt) _ _ _ _ (fun _ _ q => q) ?_
    show codeAny _ _ (.handlers (.ref ea) [.ExceptHandler none none (b₀ :: suite) hp] X.env) _ _
    refine codeAny_handlers_suite (again_tr (base := X.base) (l := X.stack) I3.stack tr3 fun h5 T5 tr5 hT5 k5 => ?_)
    have I5 : Inv X pins σ H2 { s' with heap := h5 } := Inv.exc (s := { s' with heap := h3 }) I3 hx (ch := [ea, T3]) (fun b hb => by
      rcases List.mem_cons.mp hb with z | z
      · rw [z]; exact u1
      · rw [show b = T3 by simpa using z]; exact u3) k5
    refine wpAny_mono (hs ea pins _ _ _ _ (I5.inExc ea) hsu) (fun f s7 q => ?_) (fun _ _ z => z.elim)
    cases f with
    | next => obtain ⟨σ', H', J, q⟩ := q; exact ⟨σ', H', J.outExc I.ok, q⟩
    | brk => obtain ⟨σ', H', J, q⟩ := q; exact ⟨σ', H', J.outExc I.ok, q⟩
    | cont => obtain ⟨σ', H', J, q⟩ := q; exact ⟨σ', H', J.outExc I.ok, q⟩
    | ret u => obtain ⟨v, σ', H', J, r, q⟩ := q; exact ⟨v, σ', H', J.outExc I.ok, r, q⟩
structure ClsM (K : PySem.W.Frag) (C : Addr) (m : Str) (f : Addr) : Prop where
  hg : PySem.W.specialIn K (.ref C) "__getattribute__" = some (some (.builtin "type.__getattribute__"))
  rd : PySem.W.readsIn K C (.type "type") = true
  at_ : PySem.W.findCls K (.ref C) (.type "type") m = some (.val (.ref f))
  kp : PySem.W.keepIn K (.ref f) = true
section
variable {X : Cx} {C f : Addr} {fd : FuncData} {ps : List Str} {sp : Sp} {x m : Str} {p apos pos : Pos} {e : Expr} {es : List Expr} {t : TA} {j k : Nat}
theorem pcls {pl : Sem Bool} (hm : X.mg x = some (.ref C)) (M : ClsM X.K C m f) (D : MDef X.prog X.w X.K X.mg X.base ps j sp f fd) (hr : Room k X.A) (ha : PA X (e :: es) t) (hjk : j ≤ k := by decide) (hg : Gl X x := by rfl)
    (hdb : (x == ("__debug__" : Str)) = false := by decide) (hst : starEach (e :: es) X.env = (false, eval e X.env) :: starEach es X.env := by rfl) (hpl : (backTo pos (starEach es X.env)).any (·.1) = false := by rfl)
    (ht : eval (.Call (.Attribute (.Name x p) m apos) (e :: es) [] pos) X.env = (do
      let ov ← eval (.Name x p) X.env
      standAt apos.atName
      let (f, first) ← holding [ov] (getMethod ov m pl)
      callWith pos f first (backTo pos (starEach (e :: es) X.env)) (backToKw pos (keywordEach [] X.env))) := by rfl) :
    PE X (.Call (.Attribute (.Name x p) m apos) (e :: es) [] pos) (tCall sp [] E0 t) := by
  intro pins s σ H Q I h
  refine PySem.W.methodCall_KW (pl := pl) (ld_glob I hg hm ?_ hdb) ht
  refine PySem.W.method_cls I.kIn M.hg (PySem.W.cls_value I.kIn M.rd M.at_ rfl ?_)
  have I1 : Inv X pins σ H { s with toks := s.toks + 1 } := I.tok _
  refine PySem.W.callWith_K (first := []) (h₀ := X.base) I.ok.mod.kin M.kp (thn (ha pos pins _ σ H _ I1 h) fun us s2 ⟨vs, H2, I2, r, q2⟩ => ⟨I2.kIn, ?_⟩) hst hpl
  exact run_fn D.ok (hr.mono hjk) D.b .nil passN I2 r q2
end
section
variable {X : Cx} {C f : Addr} {fd : FuncData} {ps : List Str} {sp : Sp} {x : Str} {p pos : Pos} {j k : Nat}
theorem pmake0 (M : Mk X.K C f) (hm : X.mg x = some (.ref C)) (D : MDef X.prog X.w X.K X.mg X.base ps j sp f fd) (hr : Room k X.A) (hjk : j + 1 ≤ k := by decide) (hg : Gl X x := by rfl) (hdb : (x == ("__debug__" : Str)) = false := by decide) :
    PE X (.Call (.Name x p) [] [] pos) (tMake C sp [] E0 tNil) := pe_make0 M D.ok (hr.mono hjk) hg hm D.b .nil passN hdb
end
end L2
namespace L2
open PySem
noncomputable def below (N : Nat) (sp : Nat → Sp) : Sp := fun vs H Q E => ∃ m, m < N ∧ sp m vs H Q E
end L2
set_option Elab.async false
set_option linter.all false
set_option maxRecDepth 100000
set_option maxHeartbeats 4000000
namespace L2
open PySem PySem.Spec PyProof.Rows
inductive EqD (K : PySem.W.Frag) (H : Hp) : Nat → V → V → Bool → Prop
  | flat {n : Nat} {x y : V} (fx : flatV x = true) (fy : flatV y = true) : EqD K H n x y (eqV x y)
  | same {n : Nat} {a : Addr} : EqD K H n (.ref a) (.ref a) true
  | lst {n : Nat} {a b : Addr} {xs ys : List V} {e : Nat → Bool} (ne : a ≠ b) (ha : SqL K H a xs) (hb : SqL K H b ys) (hl : xs.length = ys.length)
      (hi : ∀ j x y, xs[j]? = some x → ys[j]? = some y → EqD K H n x y (e j)) : EqD K H (n + 1) (.ref a) (.ref b) ((List.range xs.length).all e)
  | lstN {n : Nat} {a b : Addr} {xs ys : List V} (ne : a ≠ b) (ha : SqL K H a xs) (hb : SqL K H b ys) (hl : xs.length ≠ ys.length) : EqD K H (n + 1) (.ref a) (.ref b) false
  | tup {n : Nat} {a b : Addr} {xs ys : List V} {e : Nat → Bool} (ne : a ≠ b) (ha : SqT K H a xs) (hb : SqT K H b ys)
      (hi : ∀ j x y, xs[j]? = some x → ys[j]? = some y → EqD K H n x y (e j)) : EqD K H (n + 1) (.ref a) (.ref b) ((List.range (min xs.length ys.length)).all e && xs.length == ys.length)
theorem EqD.lstT {K : PySem.W.Frag} {H : Hp} {n : Nat} {a b : Addr} {xs ys : List V} (ne : a ≠ b) (ha : SqL K H a xs) (hb : SqL K H b ys) (hl : xs.length = ys.length) (hi : ∀ (j : Nat) (x y : V), xs[j]? = some x → ys[j]? = some y → EqD K H n x y true) : EqD K H (n + 1) (.ref a) (.ref b) true := by
  have h := EqD.lst (e := fun _ => true) ne ha hb hl hi
  have e (k : Nat) : (List.range k).all (fun _ => true) = true := List.all_eq_true.mpr fun _ _ => rfl
  rw [e] at h
  exact h
section
variable {X : Cx} {pins : List (Addr × Obj)} {σ : St} {H : Hp} {s : Shared}
theorem at_get {xs : List V} {us : List Value} (r : Vals xs us) {j : Nat} (h : j < us.toArray.size) : ∃ x, xs[j]? = some x ∧ RelV x us.toArray[j] := by
  have h' : j < us.length := by simpa using h
  have hx : j < xs.length := by rw [r.length]; exact h'
  obtain ⟨u, eu, ru⟩ := r.get (List.getElem?_eq_getElem hx)
  rw [List.getElem?_eq_getElem h'] at eu
  exact ⟨_, List.getElem?_eq_getElem hx, by
    have : us.toArray[j] = u := by simpa using eu
    rw [this]; exact ru⟩
theorem EqD.at_ {n : Nat} {x y : V} {b : Bool} (d : EqD X.K H n x y b) : ∀ {A : Around} {u v : Value}, A.units + n < cLine → Inv X pins σ H s → RelV x u → RelV y v → SeqAt.EqAt A s u v b := by
  induction d with
  | flat fx fy => intro A u v _ I ru rv; exact eqAt_V ru rv fx fy
  | same =>
    intro A u v _ I ru rv
    cases (show u = Value.ref _ from ru)
    cases (show v = Value.ref _ from rv)
    exact SeqAt.EqAt.same _
  | @lst n a b xs ys e ne ha hb hl hi ih =>
    intro A u v hu I ru rv
    cases (show u = Value.ref _ from ru)
    cases (show v = Value.ref _ from rv)
    obtain ⟨us, r, pl, _⟩ := I.list ha
    obtain ⟨vs, r', pl', _⟩ := I.list hb
    have l1 := r.length
    have l2 := r'.length
    have z := SeqAt.RcAt.lists (A := A) (e := e) pl.isList pl'.isList (by simp; omega) (by omega) fun j h1 h2 => by
      obtain ⟨x, ex, rx⟩ := at_get r h1
      obtain ⟨y, ey, ry⟩ := at_get r' h2
      exact ih j x y ex ey (A := A.in1) (by show A.units + 1 + n < cLine; omega) I rx ry
    rw [show us.toArray.size = xs.length by simp; omega] at z
    exact .of_refs ne z
  | @lstN n a b xs ys ne ha hb hl =>
    intro A u v hu I ru rv
    cases (show u = Value.ref _ from ru)
    cases (show v = Value.ref _ from rv)
    obtain ⟨us, r, pl, _⟩ := I.list ha
    obtain ⟨vs, r', pl', _⟩ := I.list hb
    have l1 := r.length
    have l2 := r'.length
    exact .of_refs ne (SeqAt.RcAt.lists_lengths pl.isList pl'.isList (by simp; omega) (by omega))
  | @tup n a b xs ys e ne ha hb hi ih =>
    intro A u v hu I ru rv
    cases (show u = Value.ref _ from ru)
    cases (show v = Value.ref _ from rv)
    obtain ⟨us, r, pl, _⟩ := I.tuple ha
    obtain ⟨vs, r', pl', _⟩ := I.tuple hb
    have l1 := r.length
    have l2 := r'.length
    have z := SeqAt.RcAt.tuples (A := A) (e := e) pl pl' (by omega) fun j h1 h2 => by
      obtain ⟨x, ex, rx⟩ := at_get r h1
      obtain ⟨y, ey, ry⟩ := at_get r' h2
      exact ih j x y ex ey (A := A.in1) (by show A.units + 1 + n < cLine; omega) I rx ry
    rw [show us.toArray.size = xs.length by simp; omega, show vs.toArray.size = ys.length by simp; omega] at z
    exact .of_refs ne z
noncomputable def rEqD (K : PySem.W.Frag) (neg : Bool) : R2 := fun x y H Q => ∃ n b, n ≤ 100 ∧ EqD K H n x y b ∧ (∃ a c, x = .ref a ∧ y = .ref c ∧ a ≠ c) ∧ Q (.bl (if neg then !b else b)) H
theorem op_eqD (hu : X.A.units + 100 < cLine) : OpR X (compareOp .Eq) (rEqD X.K false) := by
  intro pins s σ H x y u v Q I ru rv h
  obtain ⟨n, b, hn, d, ⟨a, c, rfl, rfl, hne⟩, q⟩ := h
  cases (show u = Value.ref _ from ru)
  cases (show v = Value.ref _ from rv)
  cases d with
  | flat fx _ => cases fx
  | same => exact absurd rfl hne
  | @lst n _ _ xs ys e ne ha hb hl hi =>
    obtain ⟨us, r, pl, _⟩ := I.list ha
    obtain ⟨vs, r', pl', _⟩ := I.list hb
    have l1 := r.length
    have l2 := r'.length
    refine SeqAt.eq_listAt (e := e) pl.isList pl'.isList (by simp; omega) (by omega) (fun j h1 h2 => ?_) ⟨.bl _, H, I, rfl, ?_⟩
    · obtain ⟨x, ex, rx⟩ := at_get r h1
      obtain ⟨y, ey, ry⟩ := at_get r' h2
      exact (hi j x y ex ey).at_ (A := X.A.in1) (by show X.A.units + 1 + n < cLine; omega) I rx ry
    · rw [show us.toArray.size = xs.length by simp; omega]; exact q
  | @lstN n _ _ xs ys ne ha hb hl =>
    obtain ⟨us, r, pl, _⟩ := I.list ha
    obtain ⟨vs, r', pl', _⟩ := I.list hb
    have l1 := r.length
    have l2 := r'.length
    exact SeqAt.eq_list_lengthsAt pl.isList pl'.isList (by simp; omega) (by omega) ⟨.bl false, H, I, rfl, q⟩
  | @tup n _ _ xs ys e ne ha hb hi =>
    obtain ⟨us, r, pl, _⟩ := I.tuple ha
    obtain ⟨vs, r', pl', _⟩ := I.tuple hb
    have l1 := r.length
    have l2 := r'.length
    refine SeqAt.eq_tupleAt (e := e) pl pl' (by omega) (fun j h1 h2 => ?_) ⟨.bl _, H, I, rfl, ?_⟩
    · obtain ⟨x, ex, rx⟩ := at_get r h1
      obtain ⟨y, ey, ry⟩ := at_get r' h2
      exact (hi j x y ex ey).at_ (A := X.A.in1) (by show X.A.units + 1 + n < cLine; omega) I rx ry
    · rw [show us.toArray.size = xs.length by simp; omega, show vs.toArray.size = ys.length by simp; omega]; exact q
theorem op_neD (hu : X.A.units + 100 < cLine) : OpR X (compareOp .NotEq) (rEqD X.K true) := by
  intro pins s σ H x y u v Q I ru rv h
  obtain ⟨n, b, hn, d, ⟨a, c, rfl, rfl, hne⟩, q⟩ := h
  cases (show u = Value.ref _ from ru)
  cases (show v = Value.ref _ from rv)
  cases d with
  | flat fx _ => cases fx
  | same => exact absurd rfl hne
  | @lst n _ _ xs ys e ne ha hb hl hi =>
    obtain ⟨us, r, pl, _⟩ := I.list ha
    obtain ⟨vs, r', pl', _⟩ := I.list hb
    have l1 := r.length
    have l2 := r'.length
    refine SeqAt.RcNeAt.lists (e := e) pl.isList pl'.isList (by simp; omega) (by omega) (fun j h1 h2 => ?_) _ _ _ _ ⟨.bl _, H, I, rfl, ?_⟩
    · obtain ⟨x, ex, rx⟩ := at_get r h1
      obtain ⟨y, ey, ry⟩ := at_get r' h2
      exact (hi j x y ex ey).at_ (A := X.A.in1) (by show X.A.units + 1 + n < cLine; omega) I rx ry
    · rw [show us.toArray.size = xs.length by simp; omega]; exact q
  | @lstN n _ _ xs ys ne ha hb hl =>
    obtain ⟨us, r, pl, _⟩ := I.list ha
    obtain ⟨vs, r', pl', _⟩ := I.list hb
    have l1 := r.length
    have l2 := r'.length
    exact SeqAt.RcNeAt.lists_lengths pl.isList pl'.isList (by simp; omega) (by omega) _ _ _ _ ⟨.bl true, H, I, rfl, q⟩
  | @tup n _ _ xs ys e ne ha hb hi =>
    obtain ⟨us, r, pl, _⟩ := I.tuple ha
    obtain ⟨vs, r', pl', _⟩ := I.tuple hb
    have l1 := r.length
    have l2 := r'.length
    refine SeqAt.RcNeAt.tuples (e := e) pl pl' (by omega) (fun j h1 h2 => ?_) _ _ _ _ ⟨.bl _, H, I, rfl, ?_⟩
    · obtain ⟨x, ex, rx⟩ := at_get r h1
      obtain ⟨y, ey, ry⟩ := at_get r' h2
      exact (hi j x y ex ey).at_ (A := X.A.in1) (by show X.A.units + 1 + n < cLine; omega) I rx ry
    · rw [show us.toArray.size = xs.length by simp; omega, show vs.toArray.size = ys.length by simp; omega]; exact q
theorem hu100 {A : Around} {k : Nat} (hr : Room k A) : A.units + 100 < cLine := Nat.lt_of_le_of_lt (by omega) hr.un
theorem plain_bool {x : V} {u : Value} {c : Bool} (r : RelV x u) : plainIs u (.bool c) = true ∧ (u == Value.bool c) = decide (x = .bl c) := by
  cases x with
  | non => cases r; exact ⟨rfl, rfl⟩
  | bl b =>
    cases r
    refine ⟨rfl, ?_⟩
    by_cases e : b = c
    · subst e; simp
    · rw [decide_eq_false (fun z => e (by injection z))]
      exact beq_eq_false_iff_ne.mpr fun z => e (by injection z)
  | int i => obtain ⟨t, rfl⟩ := r; exact ⟨rfl, rfl⟩
  | str i => obtain ⟨t, rfl⟩ := r; exact ⟨rfl, rfl⟩
  | byt i => obtain ⟨t, rfl⟩ := r; exact ⟨rfl, rfl⟩
  | flt i => obtain ⟨t, rfl⟩ := r; exact ⟨rfl, rfl⟩
  | ref a => cases r; exact ⟨rfl, rfl⟩
  | ty n => cases r; exact ⟨rfl, rfl⟩
theorem op_isB : OpR X (compareOp .Is) (fun x y H Q => ∃ c, y = .bl c ∧ Q (.bl (decide (x = .bl c))) H) := by
  intro pins s σ H x y u v Q I ru rv h
  obtain ⟨c, rfl, q⟩ := h
  cases (show v = Value.bool c from rv)
  obtain ⟨p, e⟩ := plain_bool (c := c) ru
  refine wpAny_bind (wpAny_isSame_plain p (wpAny_pure ⟨.bl _, H, I, rfl, ?_⟩))
  rw [e]; exact q
theorem op_notB : OpR X (compareOp .IsNot) (fun x y H Q => ∃ c, y = .bl c ∧ Q (.bl (!decide (x = .bl c))) H) := by
  intro pins s σ H x y u v Q I ru rv h
  obtain ⟨c, rfl, q⟩ := h
  cases (show v = Value.bool c from rv)
  obtain ⟨p, e⟩ := plain_bool (c := c) ru
  refine wpAny_bind (wpAny_isSame_plain p (wpAny_pure ⟨.bl _, H, I, rfl, ?_⟩))
  rw [e]; exact q
end
end L2
set_option Elab.async false
set_option linter.all false
set_option maxRecDepth 100000
set_option maxHeartbeats 4000000
namespace L2
open PySem PySem.Spec PyProof.Rows
noncomputable def insK (n : Nat) (i : Int) : Nat := if i < 0 then (i + (n : Int)).toNat else min i.toNat n
noncomputable def insAt (xs : List V) (i : Int) (y : V) : List V := xs.take (insK xs.length i) ++ y :: xs.drop (insK xs.length i)
section
variable {X : Cx}
noncomputable def rInsert : V → List V → Hp → VK → Prop := fun x vs H Q => ∃ l xs i y, x = .ref l ∧ vs = [.int i, y] ∧ H l = some (.lst xs) ∧ -(2 ^ 63) ≤ i ∧ i < 2 ^ 63 ∧ xs.length < sizeLine ∧ Q .non (upd H l (.lst (insAt xs i y)))
theorem mt_insert : MtM X "list.insert" rInsert := by
  intro pins s σ H x vs v us Q I rx rv h
  obtain ⟨l, xs, i, y, rfl, rfl, hH, h1, h2, hz, q⟩ := h
  cases rx
  obtain ⟨u, w, rfl, ⟨t, rfl⟩, rw'⟩ := vals2 rv
  obtain ⟨z, its, n, r, hl, e⟩ := I.lstM hH
  have fit : ¬ (!Builtin.List.listFitsIndex i) = true := by rw [fitsIndex_both h1 h2]; decide
  refine call_meets F.slot_list_insert ⟨_, e, rfl⟩ F.entry_list_insert (F.args_list_insert_3 _ _ _) (AutoSeq1.list_insert_list_int_val_1 l its.toArray n i t w fit (by rw [List.size_toArray]; omega)) ⟨e, ?_⟩
  refine ⟨.non, _, I.lset (its' := its.take (insK its.length i) ++ w :: its.drop (insK its.length i)) (ys := insAt xs i y) hH e ?_ ?_ ?_, rfl, q⟩
  · show (its.toArray.extract 0 (insK its.toArray.size i)).push w ++ its.toArray.extract (insK its.toArray.size i) = _
    rw [List.size_toArray]
    apply Array.toList_inj.mp
    simp
    exact List.take_of_length_le (by rw [List.length_drop]; exact Nat.le_refl _)
  · unfold insAt
    rw [hl]
    exact (Vals.take _ r).append (.cons rw' (Vals.drop _ r))
  · unfold insAt
    rw [List.length_append, List.length_cons, List.length_take, List.length_drop]
    omega
end
section
variable {X : Cx} {pins : List (Addr × Obj)} {σ : St} {H : Hp} {s : Shared} {h' : Heap}
theorem Inv.trackO {e : Addr} {o' : HO} (I : Inv X pins σ H s) (o : Ours X pins H e) (new : ObjOk X.prog X.w (upd H e o') s.heap e o') : Inv X pins σ (upd H e o') s := by
  have ne : ∀ b u, H b = some u → b ≠ e := fun b u q z => by rw [z, o.free] at q; cases q
  refine ⟨I.ok, I.os, I.bare, ⟨I.base.keep, I.base.slot, fun b ob q n hx => ?_, I.base.there, fun b xs q => ?_, fun b ob u q => ?_, fun b ps q => ?_⟩, I.loc, I.cell, ?_, fun x c q => ?_, fun p hp => ?_, fun b u q => ?_, I.len⟩
  · rw [upd_ne (fun z => by rw [z, o.new] at q; cases q)]; exact I.base.free b ob q n hx
  · have := I.base.tups b xs q
    rw [upd_ne (ne _ _ this)]; exact this
  · have := I.base.frzs b ob u q
    rw [upd_ne (ne _ _ this)]; exact this
  · obtain ⟨m, z⟩ := I.base.tbls b ps q
    exact ⟨m, by rw [upd_ne (ne _ _ z)]; exact z⟩
  · rw [upd_ne (Ne.symm o.loc)]; exact I.free
  · rw [upd_ne (o.cell x c q)]; exact I.freeC x c q
  · obtain ⟨z, n, r⟩ := I.pin p hp
    exact ⟨z, by rw [upd_ne (o.pin p hp)]; exact n, r⟩
  · by_cases z : b = e
    · subst z; rw [upd_same] at q; cases q; exact new
    · rw [upd_ne z] at q
      exact (I.hok b u q).stay (fun _ _ _ x => x) (fun c x => by rw [upd_ne (ne _ _ x)]; exact x) fun c xs x => by rw [upd_ne (ne _ _ x)]; exact x
end
section
variable {X : Cx}
end
end L2
set_option Elab.async false
set_option linter.all false
set_option maxRecDepth 100000
set_option maxHeartbeats 4000000
namespace Ck
open PySem L2
inductive Tree where
  | int (i : Int)
  | lst (l : List Tree)
  | tup (l : List Tree)
mutual
noncomputable def Rep (H : Hp) : Tree → V → Prop
  | .int i, v => v = .int i
  | .lst ts, v => ∃ a xs, v = .ref a ∧ H a = some (.lst xs) ∧ ts.length ≤ 1000000 ∧ RepL H ts xs
  | .tup ts, v => ∃ a xs, v = .ref a ∧ H a = some (.tup xs) ∧ ts.length ≤ 1000000 ∧ RepL H ts xs
noncomputable def RepL (H : Hp) : List Tree → List V → Prop
  | [], xs => xs = []
  | t :: ts, xs => ∃ v vs, xs = v :: vs ∧ Rep H t v ∧ RepL H ts vs
end
mutual
noncomputable def dep : Tree → Nat
  | .int _ => 0
  | .lst ts => depL ts + 1
  | .tup ts => depL ts + 1
noncomputable def depL : List Tree → Nat
  | [] => 0
  | t :: ts => max (dep t) (depL ts)
end
mutual
theorem Rep.same {H H' : Hp} (s : Same H H') : ∀ (t : Tree) {v : V}, Rep H t v → Rep H' t v
  | .int i, v, h => by unfold Rep at h ⊢; exact h
  | .lst ts, v, h => by
    unfold Rep at h ⊢
    obtain ⟨a, xs, e, ha, hl, r⟩ := h
    exact ⟨a, xs, e, s _ _ ha, hl, RepL.same s ts r⟩
  | .tup ts, v, h => by
    unfold Rep at h ⊢
    obtain ⟨a, xs, e, ha, hl, r⟩ := h
    exact ⟨a, xs, e, s _ _ ha, hl, RepL.same s ts r⟩
theorem RepL.same {H H' : Hp} (s : Same H H') : ∀ (ts : List Tree) {xs : List V}, RepL H ts xs → RepL H' ts xs
  | [], xs, h => by unfold RepL at h ⊢; exact h
  | t :: ts, xs, h => by
    unfold RepL at h ⊢
    obtain ⟨v, vs, e, r, rs⟩ := h
    exact ⟨v, vs, e, Rep.same s t r, RepL.same s ts rs⟩
end
noncomputable abbrev Pair := Int × Int
noncomputable def Prs (H : Hp) (xs : List V) (ps : List Pair) : Prop := Paired (fun (v : V) (p : Pair) => ∃ t, v = .ref t ∧ H t = some (.tup [.int p.1, .int p.2])) xs ps
theorem Prs.same {H H' : Hp} {xs : List V} {ps : List Pair} (h : Prs H xs ps) (s : Same H H') : Prs H' xs ps := Paired.mapP h fun v p ⟨t, e, q⟩ => ⟨t, e, s _ _ q⟩
theorem Prs.length {H : Hp} {xs : List V} {ps : List Pair} (h : Prs H xs ps) : xs.length = ps.length := Paired.length h
theorem Prs.get {H : Hp} : ∀ {xs : List V} {ps : List Pair}, Prs H xs ps → ∀ {i : Nat} {x : V}, xs[i]? = some x → ∃ p t, ps[i]? = some p ∧ x = .ref t ∧ H t = some (.tup [.int p.1, .int p.2])
  | _, _, .nil, i, x, e => by cases e
  | _, _, .cons r t, 0, x, e => by
    obtain ⟨a, e1, e2⟩ := r
    rw [List.getElem?_cons_zero] at e
    cases e
    exact ⟨_, a, rfl, e1, e2⟩
  | _, _, .cons r t, i + 1, x, e => by
    obtain ⟨p, a, h1, h2, h3⟩ := Prs.get t (i := i) (by simpa using e)
    exact ⟨p, a, by simpa using h1, h2, h3⟩
theorem Prs.updL {H : Hp} {xs : List V} {ps : List Pair} {a : Addr} {l : List V} (h : Prs H xs ps) (ha : H a = some (.lst l)) (o : HO) : Prs (upd H a o) xs ps :=
  Paired.mapP h fun v p ⟨t, e, q⟩ => ⟨t, e, (upd_ne (ne_of q ha (by intro z; cases z))).trans q⟩
theorem Prs.updN {H : Hp} {xs : List V} {ps : List Pair} {a : Addr} (h : Prs H xs ps) (ha : H a = none) (o : HO) : Prs (upd H a o) xs ps :=
  Paired.mapP h fun v p ⟨t, e, q⟩ => ⟨t, e, (upd_ne (ne_of_none q ha)).trans q⟩
noncomputable def PLs (H : Hp) (a : Addr) (ps : List Pair) : Prop := ∃ xs, H a = some (.lst xs) ∧ Prs H xs ps
theorem PLs.same {H H' : Hp} {a : Addr} {ps : List Pair} (h : PLs H a ps) (s : Same H H') : PLs H' a ps := let ⟨xs, e, r⟩ := h; ⟨xs, s _ _ e, r.same s⟩
theorem PLs.len {H : Hp} {a : Addr} {ps : List Pair} (h : PLs H a ps) : ∃ xs, H a = some (.lst xs) ∧ xs.length = ps.length ∧ Prs H xs ps := let ⟨xs, e, r⟩ := h; ⟨xs, e, r.length, r⟩
end Ck
namespace L2
open PySem
end L2
set_option Elab.async false
set_option linter.all false
set_option maxRecDepth 100000
set_option maxHeartbeats 4000000
namespace Ck
open PySem L2
theorem _root_.L2.EqD.rowT {K : PySem.W.Frag} {H : Hp} {n : Nat} {ws : List Int} {j : Nat} {x y : V} (ex : (ws.map V.int)[j]? = some x) (ey : (ws.map V.int)[j]? = some y) : EqD K H n x y true := by
  rw [ex] at ey
  cases ey
  obtain ⟨c, rfl⟩ := get_int ex
  have h := EqD.flat (K := K) (H := H) (n := n) (x := .int c) (y := .int c) rfl rfl
  rw [show eqV (.int c) (.int c) = true from decide_eq_true rfl] at h
  exact h
end Ck
set_option Elab.async false
set_option linter.all false
set_option maxRecDepth 100000
set_option maxHeartbeats 4000000
namespace L2
open PySem PySem.Spec PyProof.Rows PySem.SeqAt
section
variable {X : Cx}
theorem comp_walk {K : PySem.W.Frag} {a : Addr} {xs : List V} {g : TG} {tt : TT} {te : TE} {σ0 : St} {H : Hp} {D : Addr} {Q : VK} (Pv : Nat → List V → Hp → Prop) (hz : xs.length ≤ sizeLine)
    (h0 : Pv 0 [] (upd H D (.lst []))) (hl : ∀ i ys H', i ≤ xs.length → Pv i ys H' → SqL K H' a xs ∧ ys.length ≤ i)
    (hs : ∀ (i : Nat) (x : V) (ys : List V) (H' : Hp) (R : VK) (R0 : Hp → Prop), xs[i]? = some x → Pv i ys H' → (∀ v H3, H3 D = some (.lst ys) → Pv (i + 1) (ys ++ [v]) (upd H3 D (.lst (ys ++ [v]))) → R v H3) → (∀ H3, Pv (i + 1) ys H3 → R0 H3) →
      g x σ0 H' fun σ2 H2 => Ext σ0 σ2 ∧ tt σ2 H2 fun b H3 => if b = true then te σ2 H3 R else R0 H3)
    (hq : ∀ ys H', Pv xs.length ys H' → Q (.ref D) H') :
    CompW (Itl K a) g tt te σ0 D Q H := by
  refine ⟨fun i m ys H' => m = xs.length - i ∧ i ≤ xs.length ∧ Pv i ys H', ⟨xs.length, by simp, Nat.zero_le _, h0⟩, ?_⟩
  rintro i m ys H' ⟨rfl, hi, p⟩
  obtain ⟨sq, ly⟩ := hl i ys H' hi p
  by_cases hlt : i < xs.length
  · refine .inr ⟨⟨xs, xs[i], sq, by simp [hlt]⟩, fun x H'' y => ?_⟩
    obtain ⟨e, y⟩ := y
    subst e
    have ex := y xs sq
    refine hs i x ys _ _ _ ex p (fun v H3 hD p' => ⟨hD, by omega, xs.length - (i + 1), by omega, rfl, hlt, p'⟩) fun H3 p' => ⟨xs.length - (i + 1), by omega, rfl, hlt, p'⟩
  · have e : i = xs.length := by omega
    subst e
    exact .inl ⟨⟨xs, sq, Nat.le_refl _⟩, hq ys H' p⟩
end
end L2
namespace Ck
open PySem L2
end Ck
namespace Ck
open PySem L2
structure Flds (fs : List (Str × V)) (w : Str) (l : Int) : Prop where
  word : fs.lookup ("word" : Str) = some (.str w)
  least : fs.lookup ("least" : Str) = some (.int l)
  no : ∀ m : Str, m ≠ ("word" : Str) → m ≠ ("least" : Str) → fs.lookup m = none
theorem flds_mk (w : Str) (l : Int) : Flds (putF ("least" : Str) (.int l) (putF ("word" : Str) (.str w) [])) w l :=
  ⟨by rw [lookup_putF, if_neg (by decide), lookup_putF, if_pos rfl], by rw [lookup_putF, if_pos rfl], fun m a b => by rw [lookup_putF, if_neg b, lookup_putF, if_neg a]; rfl⟩
noncomputable def up (d : Int) (p : Pair) : Pair := (p.1 + d, p.2 + d)
theorem Prs.app {H : Hp} : ∀ {xs ys : List V} {ps qs : List Pair}, Prs H xs ps → Prs H ys qs → Prs H (xs ++ ys) (ps ++ qs)
  | _, _, _, _, .nil, h => h
  | _, _, _, _, .cons r t, h => .cons r (Prs.app t h)
end Ck
namespace Ck
open PySem L2
theorem flat_ints (ns : List Int) : (ns.map V.int).all flatV = true := by
  rw [List.all_eq_true]
  intro x hx
  obtain ⟨n, _, rfl⟩ := List.mem_map.mp hx
  rfl
end Ck
namespace Ck
open PySem L2
end Ck
set_option Elab.async false
set_option linter.all false
set_option maxRecDepth 100000
set_option maxHeartbeats 4000000
namespace Ck
open PySem L2
inductive St : List Int → Int → Prop
  | nil : St [] 0
  | snoc {rs : List Int} {a n : Int} : St rs a → a ≤ n → n ≤ (rs.length : Int) → St (rs ++ [n]) n
end Ck
set_option Elab.async false
set_option linter.all false
set_option maxRecDepth 100000
set_option maxHeartbeats 4000000
namespace Ck
open PySem L2
end Ck
namespace Ck
open PySem L2
end Ck
set_option Elab.async false
set_option linter.all false
set_option maxRecDepth 100000
set_option maxHeartbeats 4000000
namespace L2
open PySem PySem.Spec PyProof.Rows
theorem bb_sorted : bootBuiltins "sorted" = some (.builtin "sorted") := by decide +kernel
theorem vals_intsA : ∀ {us : List Value} {ns : List Int}, IntsAre us ns → Vals (ns.map V.int) us
  | _, _, .nil => .nil
  | _, _, .cons n t h => .cons ⟨t, rfl⟩ (vals_intsA h)
section
variable {X : Cx}
theorem call_sorted : CallR X (.builtin "sorted") (fun xs H Q => ∃ (p : Addr) (ns : List Int), xs = [.ref p] ∧ SqL X.K H p (ns.map V.int) ∧ ns.length < 64 ∧ ∀ (q : Addr) (ms : List Int), H q = none → ms.Perm ns → ms.Pairwise (· ≤ ·) → Q (.ref q) (upd H q (.lst (ms.map V.int)))) := by
  intro pins s σ H xs us Q I r h
  obtain ⟨p, ns, rfl, hl, h64, q⟩ := h
  obtain ⟨u, rfl, ru⟩ := vals1 r
  cases ru
  obtain ⟨its, r', pl, hz⟩ := I.list hl
  have hi : IntsAre its ns := intsAre_of r'
  refine sorted_ints pl.isList hi (by rw [hi.length]; exact h64) fun out ms ho hp hs => ?_
  obtain ⟨e, he⟩ := sortedAll_at s.heap its out
  have lm : (ms.map V.int).length ≤ sizeLine := by rw [List.length_map, hp.length_eq]; exact sz (by omega)
  exact ⟨.ref _, _, I.laid (t' := s.toks) (o := .lst (ms.map V.int)) (fun b u e => sortedAll_old e) (Nat.le_succ _) ⟨lm, out.toList, e, vals_intsA ho, by simpa [seqObj] using he⟩, rfl, q _ ms (I.hok.fresh (Nat.le_succ _)) hp hs⟩
end
end L2
namespace Ck
open PySem L2
end Ck
set_option Elab.async false
set_option linter.all false
set_option maxRecDepth 100000
set_option maxHeartbeats 4000000
namespace Ck
open PySem L2
end Ck
set_option Elab.async false
set_option linter.all false
set_option maxRecDepth 100000
set_option maxHeartbeats 4000000
namespace Ck
open PySem L2
end Ck
namespace Ck
open PySem L2
noncomputable def steps (ws : List Int) : List Int := (List.range (ws.length - 1)).map fun (i : Nat) => (ws.getD (i + 1) 0 - ws.getD i 0) % ((ws.length : Int) + 1)
end Ck
set_option Elab.async false
set_option linter.all false
set_option maxRecDepth 100000
set_option maxHeartbeats 4000000
namespace L2
open PySem PySem.W
structure Er1 where
  thing : Addr
noncomputable def errTab1 (K : Frag) (er : Er1) : Bool := (excIn K er.thing veB "ValueError.__new__") && (exmOne K (.ref er.thing) (.ref er.thing) == some true)
structure Er1Ok (K : Frag) (mg : Str → Option Value) (er : Er1) : Prop where
  m_thing : mg "NoThing" = some (.ref er.thing)
  x_thing : excI K er.thing
  t_thing : exmOne K (.ref er.thing) (.ref er.thing) = some true
theorem err1Ok {K : Frag} {mg : Str → Option Value} {er : Er1} (h : errTab1 K er = true) (hm : mg "NoThing" = some (.ref er.thing)) : Er1Ok K mg er := by
  unfold errTab1 at h
  simp only [Bool.and_eq_true, beq_iff_eq] at h
  exact ⟨hm, h.1, h.2⟩
end L2
namespace Ck
open PySem L2
theorem ne_int {a b : Int} (h : a ≠ b) : ¬ V.int a = V.int b := fun z => h (by injection z)
theorem map_erase {α β : Type} (f : α → β) : ∀ (l : List α) (k : Nat), (l.map f).eraseIdx k = (l.eraseIdx k).map f
  | [], _ => rfl
  | _ :: _, 0 => rfl
  | a :: l, k + 1 => by
    show f a :: (l.map f).eraseIdx k = f a :: (l.eraseIdx k).map f
    rw [map_erase f l k]
end Ck
namespace Ck
end Ck
set_option Elab.async false
set_option linter.all false
set_option maxRecDepth 100000
set_option maxHeartbeats 4000000
namespace Ck
open PySem L2
noncomputable def stp (es : List Int) (r : Int) : Int := if 0 < r then es.getD (r - 1).toNat 0 else r
noncomputable def inR (es : List Int) : Bool := es.all fun e => decide (0 ≤ e) && decide (e ≤ (es.length : Int))
end Ck
namespace Ck
open PySem L2
theorem dec_int (a b : Int) : decide (V.int a = V.int b) = decide (a = b) := by
  by_cases h : a = b
  · rw [decide_eq_true h, decide_eq_true (by rw [h])]
  · rw [decide_eq_false h, decide_eq_false (ne_int h)]
end Ck
namespace Ck
end Ck
namespace Ck
open PySem L2
end Ck
set_option Elab.async false
set_option linter.all false
set_option maxRecDepth 100000
set_option maxHeartbeats 4000000
namespace L2
open PySem PySem.Spec PyProof.Rows
theorem vals_get : ∀ {xs : List V} {us : List Value}, us.length = xs.length → (∀ (j : Nat) v, us[j]? = some v → ∃ x, xs[j]? = some x ∧ RelV x v) → Vals xs us
  | [], us, hl, _ => by
    have : us = [] := List.eq_nil_of_length_eq_zero hl
    subst this
    exact .nil
  | x :: xs, [], hl, _ => by simp at hl
  | x :: xs, u :: us, hl, k => by
    obtain ⟨y, e1, r⟩ := k 0 u rfl
    have : x = y := by simpa using e1
    subst this
    exact .cons r (vals_get (by simpa using hl) fun j w e => by
      obtain ⟨y, f1, f2⟩ := k (j + 1) w (by simpa using e)
      exact ⟨y, by simpa using f1, f2⟩)
noncomputable def rngV (i : Int) (n : Nat) : List V := ((List.range n).map fun (k : Nat) => i + (k : Int)).map V.int
section
variable {X : Cx}
theorem list_range {pins : List (Addr × Obj)} {σ : St} {H : Hp} {s : Shared} {Q : VK} {lo hi : Int} {t u v : Tok} {tk : Nat} (hc : X.calm = true) (I : Inv X pins σ H s) (h1 : -(2 ^ 62) ≤ lo) (h2 : lo < 2 ^ 62) (h3 : -(2 ^ 62) ≤ hi) (h4 : hi < 2 ^ 62) (hz : (hi - lo).toNat ≤ 1000000)
    (q : ∀ l, H l = none → Q (.ref l) (upd H l (.lst (rngV lo (hi - lo).toNat)))) : wpAny (model X.prog X.w) X.A (call (.type "list") [.ref s.heap.objs.size]) (EP X pins σ Q) X.xe { s with heap := s.heap.push { cls := .type "range", data := .fields #[.int lo t, .int hi u, .int 1 v] }, toks := tk } := by
  have I1 : Inv X pins σ H { s with heap := s.heap.push { cls := .type "range", data := .fields #[.int lo t, .int hi u, .int 1 v] }, toks := tk } := I.kept fun b o e => Heap.get?_push_of_some _ e
  refine call_list_range (n := (hi - lo).toNat) (I.ok.hd hc) (IsRange.new ..) (small_one h1 h2 h3 h4) (by rw [rangeSize_one]; split <;> omega) (by omega) fun h' tk' acc' c' hk he hacc => ?_
  have hl : acc'.toList.length = (rngV lo (hi - lo).toNat).length := by unfold rngV; simpa using hacc.1
  refine ⟨.ref _, _, I1.laid (t' := tk') (o := .lst (rngV lo (hi - lo).toNat)) hk (Nat.le_refl _) ⟨?_, acc'.toList, c', vals_get hl fun j w e => ?_, he⟩, rfl, q _ (I1.hok.fresh (Nat.le_refl _))⟩
  · unfold rngV
    rw [List.length_map, List.length_map, List.length_range]
    exact sz (by omega)
  · obtain ⟨t', e2⟩ := hacc.2 j w (by simpa using e)
    have hj : j < (hi - lo).toNat := by
      have := (List.getElem?_eq_some_iff.mp e).1
      rw [hl] at this
      unfold rngV at this
      simpa using this
    refine ⟨.int (lo + (j : Int)), ?_, t', by rw [e2, Int.mul_one]⟩
    unfold rngV
    rw [List.getElem?_map, List.getElem?_map, List.getElem?_range hj]
    rfl
noncomputable def tLR1 (ta : TA) : TE := fun σ H Q => ta σ H fun vs H1 => ∃ j : Int, vs = [.int j] ∧ -(2 ^ 62) ≤ j ∧ j < 2 ^ 62 ∧ j.toNat ≤ 1000000 ∧ ∀ l, H1 l = none → Q (.ref l) (upd H1 l (.lst (rngV 0 j.toNat)))
theorem pe_lr1 {a : Expr} {ta : TA} {p p2 pos pos2 : Pos} (hc : X.calm = true) (hgl : Gl X "list") (hml : X.mg "list" = none) (hg : Gl X "range") (hm : X.mg "range" = none) (ha : PA X [a] ta) (hs : starEach [a] X.env = [(false, eval a X.env)] := by rfl)
    (he : starEach [.Call (.Name "range" p) [a] [] pos] X.env = [(false, eval (.Call (.Name "range" p) [a] [] pos) X.env)] := by rfl) :
    PE X (.Call (.Name "list" p2) [.Call (.Name "range" p) [a] [] pos] [] pos2) (tLR1 ta) := by
  intro pins s σ H Q I h
  refine wpAny_Call_Name_kw (ld_blt I hgl hml bb_list ?_ (by decide) (by decide))
  refine PyProof.Rows.callWith_type1 ?_ he rfl
  rw [he]
  show wpAny _ _ (spliced ((false, eval (.Call (.Name "range" p) [a] [] pos) X.env) :: backTo pos2 [])) _ _ s
  refine Calls.spliced_cons (Call_ (ld_blt I hg hm boot_range (PyProof.Rows.callWith_type1 (thn (ha pos pins s σ H _ I h) fun us s1 ⟨vs, H1, I1, r1, q1⟩ => ?_) hs rfl)))
  obtain ⟨j, e, b1, b2, b3, q⟩ := q1
  subst e
  cases r1 with
  | cons r rr =>
    cases rr
    obtain ⟨t, rfl⟩ := r
    exact call_range_1 (Calls.spliced_nil (list_range hc I1 (by omega) (by omega) b1 b2 (by simpa using b3) (by simpa using q)))
end
end L2
namespace L2
open PySem PySem.Spec PyProof.Rows
noncomputable def tRev (K : PySem.W.Frag) (te ts : TE) : TE := fun σ H Q => te σ H fun x H1 => ts σ H1 fun y H2 => ∃ a xs, x = .ref a ∧ y = .int (-1) ∧ SqL K H2 a xs ∧ ∀ p, H2 p = none → Q (.ref p) (upd H2 p (.lst xs.reverse))
theorem Vals.rev : ∀ {xs : List V} {us : List Value}, Vals xs us → Vals xs.reverse us.reverse
  | _, _, .nil => .nil
  | _, _, .cons r t => by
    rw [List.reverse_cons, List.reverse_cons]
    exact (Vals.rev t).append (.cons r .nil)
theorem pe_rev {X : Cx} {e st : Expr} {te ts : TE} {p2 pos : Pos} {ops : Value → Value → List Value} (he : PE X e te) (hs : PE X st ts) (hsub : ∀ o i, subscripted (.Slice none none (some st) p2) false o i = operate (ops o i) (getItem o i)) : PE X (.Subscript e (.Slice none none (some st) p2) pos) (tRev X.K te ts) := by
  intro pins s σ H Q I h
  refine Subscript_ (thn (he pins s σ H _ I h) fun v s1 ⟨x, H1, I1, r1, q1⟩ => ?_)
  refine wpAny_Slice (evalPart_none_step (evalPart_none_step (evalPart_some_step (thn (hs pins s1 σ H1 _ I1 q1) fun u s3 ⟨y, H3, I3, r3, a, xs, ex, ey, hx, q3⟩ => ?_))))
  subst ex ey
  cases r1
  obtain ⟨t, rfl⟩ := r3
  have I4 : Inv X pins σ H3 { s3 with heap := s3.heap.push { cls := .type "slice", data := .fields #[.none, .none, .int (-1) t] } } := I3.kept (t' := s3.toks) fun b ob q => Heap.get?_push_of_some _ q
  obtain ⟨its, r, ht, hz⟩ := I4.list hx
  have hlen := r.length
  show wpAny (model X.prog X.w) X.A (subscriptTail e (.Slice none none (some st) p2) (.ref a) (.ref s3.heap.objs.size)) (EP X pins σ Q) X.xe { s3 with heap := s3.heap.push { cls := .type "slice", data := .fields #[.none, .none, .int (-1) t] } }
  refine tail_any (ops := ops (.ref a) (.ref s3.heap.objs.size)) ht.isList.typeIs slot_list_getitem.lookup ?_ (hsub _ _)
  refine wpAny_getItem_list_slice ht.isList (Heap.IsSliceOf.new ..) .none .none (.int _ _) (by decide) ?_ (by rw [List.size_toArray] <;> omega)
  rw [PySem.W.krv_pick]
  refine ⟨.ref _, _, I4.laid (t' := s3.toks) (o := .lst xs.reverse) (fun b ob q => Heap.get?_push_of_some _ q) (Nat.le_refl _) ?_, rfl, q3 _ (I4.hok.fresh (Nat.le_refl _))⟩
  exact ⟨by rw [List.length_reverse]; exact hz, its.reverse, 0, Vals.rev r, Heap.get?_push_size _ rfl⟩
end L2
namespace L2
open PySem PySem.Spec PyProof.Rows
theorem call_len_seqK {X : Cx} {K : PySem.W.Frag} (hK : X.K = K) : CallR X (.builtin "len") (fun xs H Q => ∃ a ys, xs = [.ref a] ∧ (SqL K H a ys ∨ SqT K H a ys) ∧ Q (.int ys.length) H) := by
  subst hK
  exact call_len_seq
end L2
set_option Elab.async false
set_option linter.all false
set_option maxRecDepth 100000
set_option maxHeartbeats 4000000
namespace Ck
open PySem L2
noncomputable def rgI (n : Nat) : List Int := (List.range n).map fun (k : Nat) => (k : Int)
theorem rgI_len (n : Nat) : (rgI n).length = n := by unfold rgI; simp
theorem mem_rgI {n : Nat} {m : Int} : m ∈ rgI n ↔ 0 ≤ m ∧ m < (n : Int) := by
  unfold rgI
  rw [List.mem_map]
  constructor
  · rintro ⟨k, hk, rfl⟩
    have := List.mem_range.mp hk
    omega
  · intro h
    exact ⟨m.toNat, List.mem_range.mpr (by omega), by omega⟩
theorem rgI_lt (n : Nat) : (rgI n).Pairwise (· < ·) := by
  unfold rgI
  rw [List.pairwise_map]
  exact List.pairwise_lt_range.imp fun h => by omega
noncomputable def eachB (ns : List Int) : Bool := ns.isPerm (rgI ns.length)
theorem eachB_iff (ns : List Int) : eachB ns = true ↔ ns.Perm (rgI ns.length) := List.isPerm_iff
theorem eachB_sorted {ns ms : List Int} (hp : ms.Perm ns) (hs : ms.Pairwise (· ≤ ·)) : eachB ns = decide (ms = rgI ns.length) := by
  rw [Bool.eq_iff_iff, eachB_iff, decide_eq_true_iff]
  constructor
  · intro h
    exact List.Perm.eq_of_pairwise (le := (· ≤ ·)) (fun a b _ _ h1 h2 => Int.le_antisymm h1 h2) hs ((rgI_lt _).imp Int.le_of_lt) (hp.trans h)
  · intro h
    rw [← h]
    exact hp.symm
noncomputable def stk (row : List Int) (k p : Nat) : List Int := (rgI p).filter fun m => !decide (m ∈ row.take k)
end Ck
namespace Ck
open PySem L2
theorem eqL_ints : ∀ as bs : List Int, eqL (as.map V.int) (bs.map V.int) = decide (as = bs)
  | [], [] => rfl
  | [], b :: bs => rfl
  | a :: as, [] => rfl
  | a :: as, b :: bs => by
    rw [List.map_cons, List.map_cons]
    show (eqV (.int a) (.int b) && eqL (as.map V.int) (bs.map V.int)) = _
    rw [eqL_ints as bs]
    have e : eqV (.int a) (.int b) = decide (a = b) := by
      show (a == b) = _
      by_cases h : a = b
      · subst h; simp
      · simp [h]
    rw [e]
    by_cases h1 : a = b <;> by_cases h2 : as = bs <;> simp [h1, h2]
theorem rngV_zero (n : Nat) : rngV 0 n = (rgI n).map V.int := by
  unfold rngV rgI
  refine congrArg (List.map V.int) (List.map_congr_left fun k _ => ?_)
  show (0 : Int) + (k : Int) = (k : Int)
  omega
end Ck
set_option Elab.async false
set_option linter.all false
set_option maxRecDepth 100000
set_option maxHeartbeats 4000000
namespace Ck
open PySem L2
noncomputable def knots (n : Nat) : List Int := (List.range n).map fun (k : Nat) => 1 + (k : Int)
end Ck
namespace Ck
end Ck
namespace Ck
end Ck
set_option Elab.async false
set_option linter.all false
set_option maxRecDepth 100000
set_option maxHeartbeats 4000000
namespace L2
open PySem PySem.Spec PyProof.Rows PySem.SeqAt
section
variable {X : Cx}
theorem sl_listK {K : PySem.W.Frag} (hK : X.K = K) : SlR X (rSlL K) := by
  subst hK
  exact sl_list
end
end L2
namespace Ck
open PySem L2
end Ck
namespace L2
open PySem
theorem hu1 {A : Around} {k : Nat} (hr : Room k A) : A.units + 1 < cLine := Nat.lt_of_le_of_lt (by omega) hr.un
end L2
namespace Ck
open PySem L2
end Ck
namespace L2
open PySem PySem.Spec PyProof.Rows
section
variable {κ : Type} [DecidableEq κ]
noncomputable def valV (kvs : List (κ × V)) (k : κ) : Option V := (kvs.find? fun kv => decide (kv.1 = k)).map (·.2)
noncomputable def putK (kvs : List (κ × V)) (k : κ) (v : V) : List (κ × V) :=
  if (kvs.any fun kv => decide (kv.1 = k)) = true then kvs.map (fun kv => if kv.1 = k then (kv.1, v) else kv) else kvs ++ [(k, v)]
theorem valV_pos {p : κ × V} {r : List (κ × V)} {k : κ} (e : p.1 = k) : valV (p :: r) k = some p.2 := by simp [valV, List.find?_cons, e]
theorem valV_neg {p : κ × V} {r : List (κ × V)} {k : κ} (e : ¬ p.1 = k) : valV (p :: r) k = valV r k := by simp [valV, List.find?_cons, e]
theorem valV_any (k : κ) : ∀ kvs : List (κ × V), (kvs.any fun kv => decide (kv.1 = k)) = (valV kvs k).isSome
  | [] => rfl
  | p :: r => by
    rw [List.any_cons]
    by_cases e : p.1 = k
    · simp only [valV_pos e, decide_eq_true e, Bool.true_or, Option.isSome_some]
    · rw [valV_neg e, decide_eq_false e, Bool.false_or]; exact valV_any k r
theorem valV_map (k j : κ) (y : V) : ∀ kvs : List (κ × V), valV (kvs.map fun kv => if kv.1 = k then (kv.1, y) else kv) j = (valV kvs j).map fun x => if j = k then y else x
  | [] => rfl
  | p :: r => by
    have ih := valV_map k j y r
    rw [List.map_cons]
    by_cases h : p.1 = k
    · rw [if_pos h]
      by_cases e : p.1 = j
      · rw [valV_pos (p := (p.1, y)) e, valV_pos e, Option.map_some, if_pos (e.symm.trans h)]
      · rw [valV_neg (p := (p.1, y)) e, valV_neg e, ih]
    · rw [if_neg h]
      by_cases e : p.1 = j
      · rw [valV_pos (p := p) e, valV_pos e, Option.map_some, if_neg (fun z => h (e.trans z))]
      · rw [valV_neg (p := p) e, valV_neg e, ih]
theorem valV_snoc (k j : κ) (y : V) : ∀ kvs : List (κ × V), valV kvs k = none → valV (kvs ++ [(k, y)]) j = if j = k then some y else valV kvs j
  | [], _ => by
    by_cases e : k = j
    · rw [if_pos e.symm]; exact valV_pos (p := (k, y)) e
    · rw [if_neg (fun z => e z.symm)]; exact valV_neg (p := (k, y)) e
  | p :: r, hn => by
    rw [List.cons_append]
    have hk : ¬ p.1 = k := fun z => by rw [valV_pos z] at hn; cases hn
    rw [valV_neg hk] at hn
    have ih := valV_snoc k j y r hn
    by_cases e : p.1 = j
    · rw [valV_pos e, valV_pos e, if_neg (fun z => hk (e.trans z))]
    · rw [valV_neg e, valV_neg e, ih]
theorem valV_put (kvs : List (κ × V)) (k j : κ) (y : V) : valV (putK kvs k y) j = if j = k then some y else valV kvs j := by
  unfold putK
  by_cases a : (kvs.any fun kv => decide (kv.1 = k)) = true
  · rw [if_pos a, valV_map]
    rw [valV_any] at a
    by_cases e : j = k
    · obtain ⟨x, hx⟩ := Option.isSome_iff_exists.mp a
      rw [if_pos e, e, hx, Option.map_some, if_pos rfl]
    · rw [if_neg e]
      cases valV kvs j with
      | none => rfl
      | some x => rw [Option.map_some, if_neg e]
  · rw [if_neg a]
    refine valV_snoc k j y kvs ?_
    rw [valV_any] at a
    cases q : valV kvs k with
    | none => rfl
    | some x => rw [q] at a; exact (a rfl).elim
theorem length_putK (kvs : List (κ × V)) (k : κ) (v : V) : (putK kvs k v).length ≤ kvs.length + 1 := by
  unfold putK
  split
  · rw [List.length_map]; omega
  · rw [List.length_append, List.length_cons, List.length_nil]; omega
theorem putK_new {kvs : List (κ × V)} {k : κ} (v : V) (h : valV kvs k = none) : putK kvs k v = kvs ++ [(k, v)] := by
  unfold putK
  rw [valV_any, h]
  exact if_neg (by decide)
theorem RelO.isSome_eq {o : Option V} {u : Option Value} (r : RelO o u) : o.isSome = u.isSome := by
  cases o with
  | none => cases u with
    | none => rfl
    | some _ => exact (show False from r).elim
  | some _ => cases u with
    | none => exact (show False from r).elim
    | some _ => rfl
theorem KV.val {kvs : List (κ × V)} {vs : List (κ × Value)} (r : KV kvs vs) (k : κ) : RelO (valV kvs k) (valueAt vs k) := by
  unfold KV at r
  induction r with
  | nil => exact True.intro
  | @cons p q ps qs h t ih =>
    obtain ⟨h1, h2⟩ := h
    by_cases e : p.1 = k
    · have e' : q.1 = k := h1.symm.trans e
      have b : valueAt (q :: qs) k = some q.2 := by simp [valueAt, List.find?_cons, e']
      rw [valV_pos e, b]; exact h2
    · have e' : ¬ q.1 = k := fun z => e (h1.trans z)
      have b : valueAt (q :: qs) k = valueAt qs k := by simp [valueAt, List.find?_cons, e']
      rw [valV_neg e, b]; exact ih
theorem KV.any {kvs : List (κ × V)} {vs : List (κ × Value)} (r : KV kvs vs) (k : κ) : (kvs.any fun kv => decide (kv.1 = k)) = vs.any fun kv => decide (kv.1 = k) := by
  unfold KV at r
  induction r with
  | nil => rfl
  | cons h t ih => rw [List.any_cons, List.any_cons, ih, h.1]
theorem KV.repl {kvs : List (κ × V)} {vs : List (κ × Value)} (r : KV kvs vs) (k : κ) {y : V} {u : Value} (ry : RelV y u) :
    KV (kvs.map fun kv => if kv.1 = k then (kv.1, y) else kv) (vs.map fun kv => if kv.1 = k then (kv.1, u) else kv) := by
  unfold KV at r ⊢
  induction r with
  | nil => exact .nil
  | @cons p q ps qs h t ih =>
    rw [List.map_cons, List.map_cons]
    refine .cons ?_ ih
    obtain ⟨h1, h2⟩ := h
    by_cases e : p.1 = k
    · rw [if_pos e, if_pos (h1.symm.trans e)]; exact ⟨h1, ry⟩
    · rw [if_neg e, if_neg (fun z => e (h1.trans z))]; exact ⟨h1, h2⟩
theorem KV.put {kvs : List (κ × V)} {vs : List (κ × Value)} (r : KV kvs vs) (k : κ) {y : V} {u : Value} (ry : RelV y u) : KV (putK kvs k y) (stored vs k u) := by
  unfold putK stored
  rw [r.any k]
  by_cases e : (vs.any fun kv => decide (kv.1 = k)) = true
  · rw [if_pos e, if_pos e]; exact r.repl k ry
  · rw [if_neg e, if_neg e]; exact Paired.snoc r ⟨rfl, ry⟩
theorem KV.length {kvs : List (κ × V)} {vs : List (κ × Value)} (r : KV kvs vs) : kvs.length = vs.length := Paired.length r
end
theorem kV_is {P : Program} {w : World} {k : Key} {u : Value} (r : RelV (kV k) u) : (mixKind P w).is k u = true := by
  cases k with
  | inl i => obtain ⟨t, e⟩ := (show ∃ t, u = Value.int i t from r); subst e; exact mixKind_int P w i t
  | inr x => obtain ⟨t, e⟩ := (show ∃ t, u = Value.str x t from r); subst e; exact mixKind_str P w x t
theorem items_are {P : Program} {w : World} : ∀ {ks : List Key} {us : List Value}, Vals (ks.map kV) us → ItemsAre (mixKind P w) ks us
  | [], _, r => by rw [List.map_nil] at r; cases r; exact .nil
  | k :: ks, _, r => by
    rw [List.map_cons] at r
    cases r with
    | cons h t => exact .cons (kV_is h) (items_are t)
noncomputable abbrev KT (H : Hp) : List (List Key × V) → List (List Key × Addr × Value) → Prop := Paired fun p q => p.1 = q.1 ∧ H q.2.1 = some (.tup (p.1.map kV)) ∧ RelV p.2 q.2.2
theorem KT.val {H : Hp} {kvs : List (List Key × V)} {xs : List (List Key × Addr × Value)} (r : KT H kvs xs) (k : List Key) : RelO (valV kvs k) ((atKey xs k).map (·.2)) := by
  induction r with
  | nil => exact True.intro
  | @cons p q ps qs h t ih =>
    obtain ⟨h1, _, h2⟩ := h
    by_cases e : p.1 = k
    · have e' : q.1 = k := h1.symm.trans e
      have b : atKey (q :: qs) k = some q.2 := by simp [atKey, List.find?_cons, e']
      rw [valV_pos e, b]; exact h2
    · have e' : ¬ q.1 = k := fun z => e (h1.trans z)
      have b : atKey (q :: qs) k = atKey qs k := by simp [atKey, List.find?_cons, e']
      rw [valV_neg e, b]; exact ih
theorem KT.repl {H : Hp} {kvs : List (List Key × V)} {xs : List (List Key × Addr × Value)} (r : KT H kvs xs) (k : List Key) {y : V} {u : Value} (ry : RelV y u) :
    KT H (kvs.map fun kv => if kv.1 = k then (kv.1, y) else kv) (xs.map (putAt k u)) := by
  induction r with
  | nil => exact .nil
  | @cons p q ps qs h t ih =>
    rw [List.map_cons, List.map_cons]
    refine .cons ?_ ih
    obtain ⟨h1, h2, h3⟩ := h
    unfold putAt
    by_cases e : p.1 = k
    · rw [if_pos e, if_pos (h1.symm.trans e)]; exact ⟨h1, h2, ry⟩
    · rw [if_neg e, if_neg (fun z => e (h1.trans z))]; exact ⟨h1, h2, h3⟩
theorem KT.put {H : Hp} {kvs : List (List Key × V)} {xs : List (List Key × Addr × Value)} (r : KT H kvs xs) (k : List Key) {b : Addr} {y : V} {u : Value} (hb : H b = some (.tup (k.map kV))) (ry : RelV y u) :
    KT H (putK kvs k y) (storedH xs k b u) := by
  have e : (kvs.any fun kv => decide (kv.1 = k)) = (atKey xs k).isSome := by
    rw [valV_any, (r.val k).isSome_eq, Option.isSome_map]
  unfold putK storedH
  rw [e]
  by_cases q : (atKey xs k).isSome = true
  · rw [if_pos q, if_pos q]; exact r.repl k ry
  · rw [if_neg q, if_neg q]; exact Paired.snoc r ⟨rfl, hb, ry⟩
theorem KT.keeps {H H' : Hp} {kvs : List (List Key × V)} {xs : List (List Key × Addr × Value)} (r : KT H kvs xs) (ht : ∀ b ys, H b = some (.tup ys) → H' b = some (.tup ys)) : KT H' kvs xs :=
  Paired.mapP r fun _ _ z => ⟨z.1, ht _ _ z.2.1, z.2.2⟩
section
variable {P : Program} {w : World} {H : Hp} {h : Heap} {a : Addr}
theorem rd_of {u : HO} (ok : HOk P w H h) (e : Rd H a u) : ObjOk P w H h a u := e.ok ok
theorem dk_rd {kvs : List (Key × V)} (ok : HOk P w H h) (e : Rd H a (.dK kvs)) : kvs.length ≤ sizeLine ∧ (a == sysModules) = false ∧ ∃ vs, KV kvs vs ∧ h.DictOf (mixKind P w) a vs :=
  show ObjOk P w H h a (.dK kvs) from rd_of ok e
theorem dk_of {kvs : List (Key × V)} (ok : HOk P w H h) (e : H a = some (.dK kvs)) : kvs.length ≤ sizeLine ∧ (a == sysModules) = false ∧ ∃ vs, KV kvs vs ∧ h.DictOf (mixKind P w) a vs := dk_rd ok (.inl e)
theorem key_of {ks : List Key} (ok : HOk P w H h) (e : H a = some (.tup (ks.map kV))) : (tupleKind (mixKind P w)).is h ks a := by
  obtain ⟨_, its, r, o, h1, h2, n, h3⟩ := (show ObjOk P w H h a (.tup (ks.map kV)) from ok a _ e)
  exact ⟨o, its.toArray, n, h1, h2, h3, by simpa using items_are r⟩
theorem dt_rd {kvs : List (List Key × V)} (ok : HOk P w H h) (e : Rd H a (.dT kvs)) : kvs.length ≤ sizeLine ∧ (a == sysModules) = false ∧
    ∃ xs, KT H kvs xs ∧ h.DictOfH (tupleKind (mixKind P w)) a xs := by
  obtain ⟨z, y, xs, r, o, es, ep, h1, h2, h3, h4, h5⟩ := (show ObjOk P w H h a (.dT kvs) from rd_of ok e)
  refine ⟨z, y, xs, r, o, es, ep, h1, h2, h3, h4, fun x hx => ?_, h5⟩
  have all : ∀ {l : List (List Key × V)} {m : List (List Key × Addr × Value)}, KT H l m → ∀ x ∈ m, (tupleKind (mixKind P w)).is h x.1 x.2.1 := by
    intro l m q
    induction q with
    | nil => intro x hx; exact nomatch hx
    | @cons p q ps qs hq t ih =>
      intro x hx
      rcases List.mem_cons.mp hx with e | hx
      · subst e
        exact key_of ok (by rw [← hq.1]; exact hq.2.1)
      · exact ih x hx
  exact all r x hx
theorem dt_of {kvs : List (List Key × V)} (ok : HOk P w H h) (e : H a = some (.dT kvs)) : kvs.length ≤ sizeLine ∧ (a == sysModules) = false ∧
    ∃ xs, KT H kvs xs ∧ h.DictOfH (tupleKind (mixKind P w)) a xs := dt_rd ok (.inl e)
end
noncomputable def DGet (H : Hp) (a : Addr) (y : V) (r : Option V) : Prop :=
  (∃ kvs k, Rd H a (.dK kvs) ∧ y = kV k ∧ r = valV kvs k) ∨ ∃ kvs k b, Rd H a (.dT kvs) ∧ y = .ref b ∧ H b = some (.tup (k.map kV)) ∧ r = valV kvs k
noncomputable def DPut (H : Hp) (a : Addr) (y v : V) (H' : Hp) : Prop :=
  (∃ kvs k, H a = some (.dK kvs) ∧ y = kV k ∧ kvs.length < sizeLine ∧ H' = upd H a (.dK (putK kvs k v))) ∨
  ∃ kvs k b, H a = some (.dT kvs) ∧ y = .ref b ∧ H b = some (.tup (k.map kV)) ∧ kvs.length < sizeLine ∧ H' = upd H a (.dT (putK kvs k v))
theorem DGet.k {H : Hp} {a : Addr} {kvs : List (Key × V)} {k : Key} (e : H a = some (.dK kvs)) : DGet H a (kV k) (valV kvs k) := .inl ⟨kvs, k, .inl e, rfl, rfl⟩
section
variable {X : Cx} {pins : List (Addr × Obj)} {σ : St} {H : Hp} {s : Shared} {a : Addr} {y v : V} {u r : Value} {o : Option V} {A : Around} {E : Value → Shared → Prop}
theorem Inv.big (I : Inv X pins σ H s) : sysModules < s.heap.objs.size := by
  have h : mainGlobals < s.heap.objs.size := (I.mod.glob.keeps I.bk).lt
  exact Nat.lt_trans (by decide) h
theorem d_getItem {Q : Value → Shared → Prop} (hu : A.units + 1 < cLine) (I : Inv X pins σ H s) (g : DGet H a y (some v)) (ry : RelV y u) (h : ∀ w' s', Inv X pins σ H s' → RelV v w' → Q w' s') :
    wpAny (model X.prog X.w) A (getItem (.ref a) u) Q E s := by
  rcases g with ⟨kvs, k, e, ey, l⟩ | ⟨kvs, k, b, e, ey, eb, l⟩
  · subst ey
    obtain ⟨z, hd, vs, rel, dd⟩ := dk_rd I.hok e
    obtain ⟨w', hw, rw'⟩ := RelO.some_of (v := v) (o := valueAt vs k) (by rw [l]; exact rel.val k)
    exact wpAny_getItem_of (kV_is ry) dd.mapOf hw (h w' _ (I.tok _) rw')
  · subst ey
    cases (show u = Value.ref b from ry)
    obtain ⟨z, hd, xs, rel, dd⟩ := dt_rd I.hok e
    obtain ⟨w', hw, rw'⟩ := RelO.some_of (v := v) (o := (atKey xs k).map (·.2)) (by rw [l]; exact rel.val k)
    obtain ⟨p, hp, hp2⟩ := Option.map_eq_some_iff.mp hw
    refine wpAny_getItem_heap (tupleKind_room_in1 hu) (key_of I.hok eb) dd hp ?_
    rw [hp2]
    exact h w' _ (I.tok _) rw'
theorem d_in {Q : Value → Shared → Prop} (hu : A.units + 1 < cLine) (I : Inv X pins σ H s) (g : DGet H a y o) (ry : RelV y u) (h : ∀ s', Inv X pins σ H s' → Q (.bool o.isSome) s') :
    wpAny (model X.prog X.w) A (compareOp .In u (.ref a)) Q E s := by
  rcases g with ⟨kvs, k, e, ey, l⟩ | ⟨kvs, k, b, e, ey, eb, l⟩
  · subst ey
    obtain ⟨z, hd, vs, rel, dd⟩ := dk_rd I.hok e
    refine wpAny_in_of (kV_is ry) hd dd.mapOf ?_
    rw [← (rel.val k).isSome_eq, ← l]
    exact h _ (I.tok _)
  · subst ey
    cases (show u = Value.ref b from ry)
    obtain ⟨z, hd, xs, rel, dd⟩ := dt_rd I.hok e
    refine wpAny_in_heap (tupleKind_room_in1 hu) (key_of I.hok eb) hd dd ?_
    have q := (rel.val k).isSome_eq
    rw [Option.isSome_map] at q
    rw [← q, ← l]
    exact h _ (I.tok _)
theorem d_notIn {Q : Value → Shared → Prop} (hu : A.units + 1 < cLine) (I : Inv X pins σ H s) (g : DGet H a y o) (ry : RelV y u) (h : ∀ s', Inv X pins σ H s' → Q (.bool (!o.isSome)) s') :
    wpAny (model X.prog X.w) A (compareOp .NotIn u (.ref a)) Q E s := by
  rcases g with ⟨kvs, k, e, ey, l⟩ | ⟨kvs, k, b, e, ey, eb, l⟩
  · subst ey
    obtain ⟨z, hd, vs, rel, dd⟩ := dk_rd I.hok e
    refine wpAny_notIn_of (kV_is ry) hd dd.mapOf ?_
    rw [← (rel.val k).isSome_eq, ← l]
    exact h _ (I.tok _)
  · subst ey
    cases (show u = Value.ref b from ry)
    obtain ⟨z, hd, xs, rel, dd⟩ := dt_rd I.hok e
    refine wpAny_notIn_heap (tupleKind_room_in1 hu) (key_of I.hok eb) hd dd ?_
    have q := (rel.val k).isSome_eq
    rw [Option.isSome_map] at q
    rw [← q, ← l]
    exact h _ (I.tok _)
theorem d_write {h' : Heap} {t' : Nat} {ob : HO} (I : Inv X pins σ H s) (mu : Mut (H a)) (hs : Heap.SameBut a s.heap h') (he : ∃ q, h'.get? a = some q) (new : ObjOk X.prog X.w (upd H a ob) h' a ob) :
    Inv X pins σ (upd H a ob) { s with heap := h', toks := t' } :=
  I.write (x := a) (e := a) mu (.inl rfl) (fun b q hb z => (hs.2 b hb).trans z) he new
theorem dk_new {P : Program} {w : World} {H' : Hp} {h' : Heap} {kvs : List (Key × V)} {vs : List (Key × Value)} (z : kvs.length ≤ sizeLine) (hd : (a == sysModules) = false) (rel : KV kvs vs) (dd : h'.DictOf (mixKind P w) a vs) :
    ObjOk P w H' h' a (.dK kvs) := ⟨z, hd, vs, rel, dd⟩
theorem d_setItem {H' : Hp} {Q : Unit → Shared → Prop} (hu : A.units + 1 < cLine) (I : Inv X pins σ H s) (g : DPut H a y v H') (ry : RelV y u) (rv : RelV v r) (h : ∀ s', Inv X pins σ H' s' → Q () s') :
    wpAny (model X.prog X.w) A (setItem (.ref a) u r) Q E s := by
  rcases g with ⟨kvs, k, e, ey, l, eH⟩ | ⟨kvs, k, b, e, ey, eb, l, eH⟩
  · subst ey eH
    obtain ⟨z, hd, vs, rel, dd⟩ := dk_of I.hok e
    have hz : vs.length ≤ sizeLine := by rw [← rel.length]; exact z
    have hl : (putK kvs k v).length ≤ sizeLine := by have := length_putK kvs k v; omega
    refine wpAny_setItem_pairs (hsz := hz) (kV_is ry) dd fun h' dd' hs => h _ ?_
    have he : ∃ q, h'.get? a = some q := let ⟨q, _, _, hq, _⟩ := dd'; ⟨q, hq⟩
    exact d_write I (by rw [e]; exact True.intro) hs he (dk_new hl hd (rel.put k rv) dd')
  · subst ey eH
    cases (show u = Value.ref b from ry)
    obtain ⟨z, hd, xs, rel, dd⟩ := dt_of I.hok e
    have hz : xs.length ≤ sizeLine := by rw [← Paired.length rel]; exact z
    have hl : (putK kvs k v).length ≤ sizeLine := by have := length_putK kvs k v; omega
    refine wpAny_setItem_heap (hsz := hz) (tupleKind_room_in1 hu) (key_of I.hok eb) dd fun h' dd' hs => h _ ?_
    obtain ⟨q, es, ep, hq, h2, h3, h4, _, h5⟩ := dd'
    refine d_write I (by rw [e]; exact True.intro) hs ⟨q, hq⟩ ⟨hl, hd, _, (rel.put k eb rv).keeps fun c ys ec => ?_, q, es, ep, hq, h2, h3, h4, h5⟩
    rw [upd_ne (ne_of ec e (fun z => nomatch z))]
    exact ec
end
section
variable {X : Cx} {pins : List (Addr × Obj)} {σ : St} {H : Hp} {s : Shared} {a : Addr} {kvs : List (Key × V)} {k : Key} {u : Value} {A : Around} {E : Value → Shared → Prop}
theorem d_len {Q : Value → Shared → Prop} (I : Inv X pins σ H s) (e : Rd H a (.dK kvs)) (h : ∀ t s', Inv X pins σ H s' → Q (.int kvs.length t) s') : wpAny (model X.prog X.w) A (call (.builtin "len") [.ref a]) Q E s := by
  obtain ⟨z, hd, vs, rel, dd⟩ := dk_rd I.hok e
  refine call_len_dict hd dd (by rw [← rel.length]; rw [sizeLine_eq] at z; omega) ?_
  rw [← rel.length]
  exact h _ _ (I.tok _)
end
noncomputable def NoSl (i : Expr) : Prop := ∀ ov iv, subscripted i false ov iv = operate [ov, iv] (getItem ov iv)
theorem subD_of {prog : Program} {w : World} {A : Around} {E : Value → Shared → Prop} {s : Shared} {env : Env} {value slice : Expr} {pos : Pos} {T id : String} {Q : Value → Shared → Prop}
    (hl : typeLookup (.type T) "__getitem__" = pure (some (.builtin id))) (hs : NoSl slice)
    (h : wpAny (model prog w) A (eval value env) (fun o s₁ => wpAny (model prog w) A (eval slice env) (fun i s₂ => s₂.TypeIs o T ∧ wpAny (model prog w) A (getItem o i) Q E s₂) E s₁) E s) :
    wpAny (model prog w) A (eval (.Subscript value slice pos) env) Q E s := by
  refine Subscript_ (wpAny_mono h (fun o s₁ h₁ => wpAny_mono h₁ (fun i s₂ h₂ => ?_) fun _ _ x => x) fun _ _ x => x)
  obtain ⟨hT, h₂⟩ := h₂
  unfold subscriptTail
  refine wpAny_bind ?_
  rw [getitemInPython_of_ne hT.not_modules]
  refine wpAny_bind (wpAny_specialOf hT hl ?_)
  have fin : wpAny (model prog w) A (subscripted slice false o i) (fun r s₃ => wpAny (model prog w) A (letTemporaryGo value o r >>= fun _ => pure r) Q E s₃) E s₂ := by
    rw [hs o i]
    exact wpAny_operating (wpAny_mono h₂ (fun r s₃ h₃ => wpAny_bind (wpAny_letTemporaryGo (wpAny_pure h₃))) fun _ _ x => x)
  first
    | exact wpAny_pure (wpAny_bind fin)
    | exact wpAny_bind (wpAny_pure (wpAny_bind fin))
    | exact wpAny_bind fin
theorem dict_typeIs {X : Cx} {pins : List (Addr × Obj)} {σ : St} {H : Hp} {s : Shared} {a : Addr} {y : V} {o : Option V} (I : Inv X pins σ H s) (g : DGet H a y o) : s.TypeIs (.ref a) "dict" := by
  rcases g with ⟨kvs, k, e, _, _⟩ | ⟨kvs, k, b, e, _, _, _⟩
  · obtain ⟨_, _, vs, _, dd⟩ := dk_rd I.hok e
    exact dd.typeIs
  · obtain ⟨_, _, xs, _, dd⟩ := dt_rd I.hok e
    exact dd.typeIs
noncomputable def tDGet (td ty : TE) : TE := fun σ H Q => td σ H fun x H1 => ty σ H1 fun y H2 => ∃ a v, x = .ref a ∧ DGet H2 a y (some v) ∧ Q v H2
noncomputable def tDIn (ty td : TE) : TE := fun σ H Q => ty σ H fun y H1 => td σ H1 fun x H2 => ∃ a o, x = .ref a ∧ DGet H2 a y o ∧ Q (.bl o.isSome) H2
noncomputable def tDNotIn (ty td : TE) : TE := fun σ H Q => ty σ H fun y H1 => td σ H1 fun x H2 => ∃ a o, x = .ref a ∧ DGet H2 a y o ∧ Q (.bl (!o.isSome)) H2
noncomputable def sDPut (td ty tv : TE) : TS := fun D σ H => tv σ H fun v H1 => td σ H1 fun x H2 => ty σ H2 fun y H3 => ∃ a H4, x = .ref a ∧ DPut H3 a y v H4 ∧ D.nx σ H4
section
variable {X : Cx} {o i e value : Expr} {pos pos' tpos : Pos} {td ty tv : TE}
theorem pe_dget (hu : X.A.units + 1 < cLine) (ho : PE X o td) (hi : PE X i ty) (hs : NoSl i) : PE X (.Subscript o i pos) (tDGet td ty) := by
  intro pins s σ H Q I h
  refine subD_of PySem.F.slot_dict_getitem.lookup hs (thn (ho pins s σ H _ I h) fun u s1 ⟨x, H1, I1, rx, q1⟩ => thn (hi pins s1 σ H1 _ I1 q1) fun iv s2 ⟨y, H2, I2, ry, a, v, ex, g, q2⟩ => ?_)
  subst ex
  obtain rfl : u = Value.ref a := rx
  exact ⟨dict_typeIs I2 g, d_getItem hu I2 g ry fun w' s3 I3 rw' => ⟨v, H2, I3, rw', q2⟩⟩
theorem pc_din (hu : X.A.units + 1 < cLine) (hi : PE X i ty) (ho : PE X o td) : PC X .In i o (tDIn ty td) := by
  intro pins s σ H Q I h
  refine thn (hi pins s σ H _ I h) fun iv s1 ⟨y, H1, I1, ry, q1⟩ => thn (ho pins s1 σ H1 _ I1 q1) fun u s2 ⟨x, H2, I2, rx, a, ov, ex, g, q2⟩ => ?_
  subst ex
  obtain rfl : u = Value.ref a := rx
  exact d_in hu I2 g ry fun s3 I3 => ⟨.bl ov.isSome, H2, I3, rfl, q2⟩
theorem pc_dnotin (hu : X.A.units + 1 < cLine) (hi : PE X i ty) (ho : PE X o td) : PC X .NotIn i o (tDNotIn ty td) := by
  intro pins s σ H Q I h
  refine thn (hi pins s σ H _ I h) fun iv s1 ⟨y, H1, I1, ry, q1⟩ => thn (ho pins s1 σ H1 _ I1 q1) fun u s2 ⟨x, H2, I2, rx, a, ov, ex, g, q2⟩ => ?_
  subst ex
  obtain rfl : u = Value.ref a := rx
  exact d_notIn hu I2 g ry fun s3 I3 => ⟨.bl (!ov.isSome), H2, I3, rfl, q2⟩
theorem ps_dput (hu : X.A.units + 1 < cLine) (ho : PE X o td) (hi : PE X i ty) (hv : PE X value tv) (hs : swapsWith value (some (.Subscript o i pos')) pos.line X.env = pure false) :
    PS X (.Assign [.Subscript o i pos'] value pos) (sDPut td ty tv) := by
  intro pins s σ H D I h
  refine wpAny_Assign_Subscript (thn (hv pins s σ H _ I h) fun r s1 ⟨v, H1, I1, rv, q1⟩ => thn (ho pins s1 σ H1 _ I1 q1) fun u s2 ⟨x, H2, I2, rx, q2⟩ => thn (hi pins s2 σ H2 _ I2 q2) fun iv s3 ⟨y, H3, I3, ry, a, H4, ex, g, q3⟩ => ?_) hs
  subst ex
  obtain rfl : u = Value.ref a := rx
  exact d_setItem hu I3 g ry rv fun s4 I4 => ⟨σ, H4, I4, q3⟩
end
theorem dk_empty {P : Program} {w : World} {H : Hp} (h : Heap) (hb : sysModules < h.objs.size) : ObjOk P w H (h.push { cls := .type "dict", data := .dict #[] }) h.objs.size (.dK []) :=
  ⟨Nat.zero_le _, beq_eq_false_iff_ne.mpr (Ne.symm (Nat.ne_of_lt hb)), [], .nil, Heap.DictOf.new h⟩
noncomputable def tDNewK : TE := fun _ H Q => ∀ p, H p = none → Q (.ref p) (upd H p (.dK []))
section
variable {X : Cx} {pos : Pos}
theorem pe_dnewK : PE X (.Dict [] [] pos) tDNewK := fun pins s σ H Q I h =>
  wpAny_Dict_empty ⟨.ref s.heap.objs.size, _, I.laid (a := s.heap.objs.size) (o := .dK []) (t' := s.toks) (fun _ _ q => Heap.get?_push_of_some _ q) (Nat.le_refl _) (dk_empty s.heap I.big), rfl, h _ (I.hok.fresh (Nat.le_refl _))⟩
end
section
variable {X : Cx} {pins : List (Addr × Obj)} {σ : St} {H : Hp} {s : Shared} {a : Addr} {y d : V} {u r : Value} {o : Option V} {A : Around} {E : Value → Shared → Prop}
end
section
variable {X : Cx} {o e f : Expr} {apos cpos : Pos} {td ty tx : TE}
end
section
variable {X : Cx} {pins : List (Addr × Obj)} {σ : St} {H : Hp} {s : Shared} {a : Addr} {kvs : List (Key × V)} {A : Around} {E : Value → Shared → Prop}
end
section
variable {X : Cx} {pins : List (Addr × Obj)} {σ : St} {H : Hp} {s : Shared} {a : Addr} {y : V} {u : Value} {A : Around} {E : Value → Shared → Prop}
end
end L2
namespace L2
open PySem PySem.Spec PyProof.Rows
section
variable {κ : Type} [DecidableEq κ]
theorem nd_snoc : ∀ {l : List κ} {k : κ}, l.Nodup → ¬ k ∈ l → (l ++ [k]).Nodup
  | [], k, _, _ => by simp
  | a :: r, k, h, hk => by
    obtain ⟨h1, h2⟩ := List.nodup_cons.mp h
    show (a :: (r ++ [k])).Nodup
    refine List.nodup_cons.mpr ⟨fun m => ?_, nd_snoc h2 fun m => hk (List.mem_cons.mpr (Or.inr m))⟩
    rcases List.mem_append.mp m with q | q
    · exact h1 q
    · exact hk (List.mem_cons.mpr (Or.inl (List.mem_singleton.mp q).symm))
end
end L2
set_option Elab.async false
set_option linter.all false
set_option maxRecDepth 100000
set_option maxHeartbeats 4000000
namespace L2
open PySem PySem.Spec PyProof.Rows
section
variable {X : Cx}
end
end L2
namespace Ck
open PySem L2
end Ck
namespace L2
open PySem PySem.Spec PyProof.Rows PyProof
end L2
set_option Elab.async false
set_option linter.all false
set_option maxRecDepth 100000
set_option maxHeartbeats 4000000
namespace L2
open PySem PySem.Spec PyProof.Rows PySem.W
noncomputable def pw {α : Type} (n : Nat) (lt : Nat → Nat → Bool) : KasT α → (α → Prop) → Prop
  | .ret a, Q => Q a
  | .ask i j k, Q => i < n ∧ j < n ∧ pw n lt (k (lt i j)) Q
theorem pw_bind {α β : Type} {n : Nat} {lt : Nat → Nat → Bool} {f : α → KasT β} {Q : β → Prop} : ∀ {t : KasT α}, pw n lt t (fun a => pw n lt (f a) Q) → pw n lt (t.bind f) Q
  | .ret _, h => h
  | .ask _ _ _, h => ⟨h.1, h.2.1, pw_bind h.2.2⟩
theorem pw_mono {α : Type} {n : Nat} {lt : Nat → Nat → Bool} {Q Q' : α → Prop} (m : ∀ a, Q a → Q' a) : ∀ {t : KasT α}, pw n lt t Q → pw n lt t Q'
  | .ret a, h => m a h
  | .ask _ _ _, h => ⟨h.1, h.2.1, pw_mono m h.2.2⟩
theorem pw_wp {α : Type} {n : Nat} {lt : Nat → Nat → Bool} {Q : α → Prop} {s : Shared} {cmp : Nat → Nat → (Bool → Shared → Prop) → Shared → Prop}
    (hc : ∀ (i j : Nat) (C : Bool → Shared → Prop), i < n → j < n → C (lt i j) s → cmp i j C s) : ∀ {t : KasT α}, pw n lt t Q → t.kasWp cmp (fun a s' => s' = s ∧ Q a) s
  | .ret _, h => ⟨rfl, h⟩
  | .ask i j k, h => hc i j (fun b s' => (k b).kasWp cmp (fun a s' => s' = s ∧ Q a) s') h.1 h.2.1 (pw_wp hc h.2.2)
structure Ordr (lt : Nat → Nat → Bool) : Prop where
  asym : ∀ a b, lt a b = true → lt b a = false
  ntr : ∀ a b c, lt b a = false → lt c b = false → lt c a = false
noncomputable abbrev gA (p : Array Nat) (k : Nat) : Nat := p.getD k 0
noncomputable def OkP (n : Nat) (p : Array Nat) : Prop := p.toList.Perm (List.range n)
theorem OkP.size {n : Nat} {p : Array Nat} (h : OkP n p) : p.size = n := by
  have := h.length_eq
  rw [List.length_range] at this
  simpa using this
theorem OkP.lt {n : Nat} {p : Array Nat} (h : OkP n p) (hn : 0 < n) (k : Nat) : gA p k < n := by
  unfold gA
  by_cases hk : k < p.size
  · have e : p.getD k 0 = p[k] := by simp [hk]
    rw [e]
    exact List.mem_range.mp (h.mem_iff.mp (Array.getElem_mem_toList hk))
  · have e : p.getD k 0 = 0 := by simp [hk]
    rw [e]; exact hn
theorem gA_mir {p : Array Nat} {i j : Nat} (hj : j ≤ p.size) (k : Nat) : gA (kas_rev p i j) k = if i ≤ k ∧ k < j then gA p (i + j - 1 - k) else gA p k := by
  unfold gA kas_rev
  rw [Array.getD_eq_getD_getElem?, getElem?_mirror_all hj k]
  split
  · rw [← Array.getD_eq_getD_getElem?]
  · rw [← Array.getD_eq_getD_getElem?]
theorem gA_bub {p : Array Nat} {src d : Nat} (hs : src < p.size) (hd : d ≤ src) (k : Nat) : gA (bubble p src d) k = if k = src - d then gA p src else if src - d < k ∧ k ≤ src then gA p (k - 1) else gA p k := by
  unfold gA
  rw [Array.getD_eq_getD_getElem?, getElem?_bubble hs d hd k]
  split
  · simp [hs]
  · split
    · rw [← Array.getD_eq_getD_getElem?]
    · rw [← Array.getD_eq_getD_getElem?]
theorem OkP.rev {n : Nat} {p : Array Nat} (h : OkP n p) (i j : Nat) : OkP n (kas_rev p i j) := (Array.perm_iff_toList_perm.mp (mirror_perm p i j _)).trans h
theorem OkP.bub {n : Nat} {p : Array Nat} (h : OkP n p) (i j : Nat) : OkP n (bubble p i j) := (Array.perm_iff_toList_perm.mp (bubble_perm p i j)).trans h
section
variable {n : Nat} {lt : Nat → Nat → Bool} (O : Ordr lt)
noncomputable def Ris (lt : Nat → Nat → Bool) (p : Array Nat) (k : Nat) : Prop := ∀ i j, i ≤ j → j < k → lt (gA p j) (gA p i) = false
noncomputable def Fal (lt : Nat → Nat → Bool) (p : Array Nat) (k : Nat) : Prop := ∀ i j, i ≤ j → j < k → lt (gA p i) (gA p j) = false
noncomputable def Alk (lt : Nat → Nat → Bool) (a b : Nat) : Prop := lt a b = false ∧ lt b a = false
include O
theorem Ordr.irr (a : Nat) : lt a a = false := by
  cases h : lt a a with
  | false => rfl
  | true => exact h.symm.trans (O.asym a a h)
theorem Ordr.alk (a : Nat) : Alk lt a a := ⟨O.irr a, O.irr a⟩
theorem Ordr.alkT {a b c : Nat} (x : Alk lt a b) (y : Alk lt b c) : Alk lt a c := ⟨O.ntr c b a y.1 x.1, O.ntr a b c x.2 y.2⟩
theorem Ordr.up {a b c : Nat} (x : lt a b = true) (y : lt c b = false) : lt a c = true := by
  cases h : lt a c with
  | true => rfl
  | false => exact (x.symm.trans (O.ntr b c a y h)).symm ▸ rfl
theorem Ris.one (p : Array Nat) : Ris lt p 1 := fun i j h1 h2 => by
  have e : i = j := by omega
  subst e
  exact O.irr _
theorem Fal.one (p : Array Nat) : Fal lt p 1 := fun i j h1 h2 => by
  have e : i = j := by omega
  subst e
  exact O.irr _
theorem Ris.snoc {p : Array Nat} {m : Nat} (h1 : 1 ≤ m) (h : Ris lt p m) (c : lt (gA p m) (gA p (m - 1)) = false) : Ris lt p (m + 1) := fun i j ij jm => by
  by_cases hj : j < m
  · exact h i j ij hj
  · have e : j = m := by omega
    subst e
    by_cases hi : i = j
    · subst hi; exact O.irr _
    · exact O.ntr _ _ _ (h i (j - 1) (by omega) (by omega)) c
theorem Fal.snoc {p : Array Nat} {m : Nat} (h1 : 1 ≤ m) (h : Fal lt p m) (c : lt (gA p (m - 1)) (gA p m) = false) : Fal lt p (m + 1) := fun i j ij jm => by
  by_cases hj : j < m
  · exact h i j ij hj
  · have e : j = m := by omega
    subst e
    by_cases hi : i = j
    · subst hi; exact O.irr _
    · exact O.ntr _ _ _ c (h i (j - 1) (by omega) (by omega))
theorem Fal.alk {p p' : Array Nat} {m : Nat} (h : Fal lt p m) (e : ∀ k, k < m → Alk lt (gA p' k) (gA p k)) : Fal lt p' m := fun i j ij jm =>
  O.ntr _ _ _ (e j jm).2 (O.ntr _ _ _ (h i j ij jm) (e i (by omega)).1)
theorem pw_asc {p : Array Nat} (hp : OkP n p) {N : Nat} (hN : N ≤ n) : ∀ (f m : Nat), 1 ≤ m → m + f = N → Ris lt p m → pw n lt (kas_asc p f m) (fun r => m ≤ r ∧ r ≤ N ∧ Ris lt p r ∧ (r < N → lt (gA p r) (gA p (r - 1)) = true))
  | 0, m, h1, h2, h => ⟨Nat.le_refl _, by omega, h, fun z => absurd z (by omega)⟩
  | f + 1, m, h1, h2, h => by
    refine ⟨hp.lt (by omega) _, hp.lt (by omega) _, ?_⟩
    show pw n lt (if lt (gA p m) (gA p (m - 1)) = true then _ else _) _
    cases c : lt (gA p m) (gA p (m - 1)) with
    | true =>
      rw [if_pos rfl]
      exact ⟨Nat.le_refl _, by omega, h, fun _ => c⟩
    | false =>
      rw [if_neg (by decide)]
      exact pw_mono (fun r hr => ⟨by omega, hr.2⟩) (pw_asc hp hN f (m + 1) (by omega) (by omega) (h.snoc O h1 c))
theorem pw_desc {N : Nat} (hN : N ≤ n) : ∀ (f : Nat) (p : Array Nat) (m q : Nat), OkP n p → q + 1 ≤ m → m + f = N → Fal lt p m → (∀ i, m - 1 - q ≤ i → i < m → Alk lt (gA p i) (gA p (m - 1))) →
    pw n lt (kas_desc f p m q) (fun r => OkP n r.1 ∧ r.2.2 + 1 ≤ r.2.1 ∧ r.2.1 ≤ N ∧ Fal lt r.1 r.2.1 ∧ ∀ i, r.2.1 - 1 - r.2.2 ≤ i → i < r.2.1 → Alk lt (gA r.1 i) (gA r.1 (r.2.1 - 1)))
  | 0, p, m, q, hp, hq, h2, h, al => ⟨hp, hq, by show m ≤ N; omega, h, al⟩
  | f + 1, p, m, q, hp, hq, h2, h, al => by
    have hs := hp.size
    refine ⟨hp.lt (by omega) _, hp.lt (by omega) _, ?_⟩
    show pw n lt (if lt (gA p m) (gA p (m - 1)) = true then _ else _) _
    cases c : lt (gA p m) (gA p (m - 1)) with
    | true =>
      rw [if_pos rfl]
      by_cases q0 : q > 0
      · rw [if_pos q0]
        have e : ∀ k, gA (kas_rev p (m - (q + 1)) m) k = if m - (q + 1) ≤ k ∧ k < m then gA p (m - (q + 1) + m - 1 - k) else gA p k := fun k => gA_mir (by omega) k
        have ek : ∀ k, k < m → Alk lt (gA (kas_rev p (m - (q + 1)) m) k) (gA p k) := fun k hk => by
          rw [e k]
          split
          · have z1 := al (m - (q + 1) + m - 1 - k) (by omega) (by omega)
            have z2 := al k (by omega) hk
            exact O.alkT z1 ⟨z2.2, z2.1⟩
          · exact O.alk _
        have em : gA (kas_rev p (m - (q + 1)) m) m = gA p m := by rw [e m, if_neg (by omega)]
        refine pw_desc hN f _ (m + 1) 0 (hp.rev _ _) (by omega) (by omega) ((h.alk O ek).snoc O (by omega) ?_) (fun i i1 i2 => ?_)
        · rw [em]
          have := (ek (m - 1) (by omega)).1
          exact O.ntr _ _ _ (O.asym _ _ c) this
        · have : i = m := by omega
          subst this
          exact O.alk _
      · rw [if_neg q0]
        refine pw_desc hN f p (m + 1) 0 hp (by omega) (by omega) (h.snoc O (by omega) (O.asym _ _ c)) (fun i i1 i2 => ?_)
        have : i = m := by omega
        subst this
        exact O.alk _
    | false =>
      rw [if_neg (by decide)]
      refine ⟨hp.lt (by omega) _, hp.lt (by omega) _, ?_⟩
      show pw n lt (if lt (gA p (m - 1)) (gA p m) = true then _ else _) _
      cases d : lt (gA p (m - 1)) (gA p m) with
      | true =>
        rw [if_pos rfl]
        exact ⟨hp, hq, by show m ≤ N; omega, h, al⟩
      | false =>
        rw [if_neg (by decide)]
        refine pw_desc hN f p (m + 1) (q + 1) hp (by omega) (by omega) (h.snoc O (by omega) d) (fun i i1 i2 => ?_)
        by_cases hi : i < m
        · exact O.alkT (al i (by omega) hi) ⟨d, c⟩
        · have : i = m := by omega
          subst this
          exact O.alk _
noncomputable def Cnt (n : Nat) (lt : Nat → Nat → Bool) (N : Nat) (r : Nat × Array Nat) : Prop := OkP n r.2 ∧ Ris lt r.2 r.1 ∧ 1 ≤ r.1 ∧ r.1 ≤ N
theorem pw_tail3 {N : Nat} (hN : N ≤ n) {p : Array Nat} {m : Nat} (hp : OkP n p) (h1 : 1 ≤ m) (hm : m ≤ N) (h : Fal lt p m) : pw n lt (kas_tail3 m N p) (Cnt n lt N) := by
  have hs := hp.size
  have e : ∀ k, k < m → gA (kas_rev p 0 m) k = gA p (m - 1 - k) := fun k hk => by
    rw [gA_mir (by omega), if_pos (by omega), Nat.zero_add]
  refine pw_bind (pw_mono (fun r hr => ?_) (pw_asc O (hp.rev 0 m) hN (N - m) m h1 (by omega) (fun i j ij jm => ?_)))
  · exact ⟨hp.rev 0 m, hr.2.2.1, by show 1 ≤ r; omega, hr.2.1⟩
  · rw [e i (by omega), e j jm]
    exact h _ _ (by omega) (by omega)
theorem pw_descPart {N : Nat} (hN : N ≤ n) {p : Array Nat} {m : Nat} (hp : OkP n p) (h1 : 1 ≤ m) (hm : m + 1 ≤ N) (h : Fal lt p m) (c : lt (gA p m) (gA p (m - 1)) = true) : pw n lt (kas_descPart m N p) (Cnt n lt N) := by
  refine pw_bind (pw_mono (fun r hr => ?_) (pw_desc O hN (N - (m + 1)) p (m + 1) 0 hp (by omega) (by omega) (h.snoc O h1 (O.asym _ _ c)) (fun i i1 i2 => ?_)))
  · obtain ⟨p', m', q'⟩ := r
    obtain ⟨ok, hq, hl, fa, al⟩ := hr
    have hs := ok.size
    dsimp only at hs hq hl fa al ⊢
    by_cases q0 : q' > 0
    · rw [if_pos q0]
      refine pw_tail3 O hN (ok.rev _ _) (by omega) hl (fa.alk O fun k hk => ?_)
      rw [gA_mir (by omega)]
      split
      · have z1 := al (m' - (q' + 1) + m' - 1 - k) (by omega) (by omega)
        have z2 := al k (by omega) hk
        exact O.alkT z1 ⟨z2.2, z2.1⟩
      · exact O.alk _
    · rw [if_neg q0]
      exact pw_tail3 O hN ok (by omega) hl fa
  · have : i = m := by omega
    subst this
    exact O.alk _
theorem pw_count {N : Nat} (hN : N ≤ n) (hN1 : 1 ≤ N) {p : Array Nat} (hp : OkP n p) : pw n lt (kas_count N p) (Cnt n lt N) := by
  have hs := hp.size
  refine pw_bind (pw_mono (fun m hm => ?_) (pw_asc O hp hN (N - 1) 1 (Nat.le_refl _) (by omega) (Ris.one O p)))
  obtain ⟨m1, mN, ri, st⟩ := hm
  by_cases e : m = N
  · subst e
    rw [if_pos (by simp)]
    exact ⟨hp, ri, m1, Nat.le_refl _⟩
  · rw [if_neg (by simpa using e)]
    have c := st (by omega)
    by_cases m2 : m > 1
    · rw [if_pos m2]
      refine ⟨hp.lt (by omega) _, hp.lt (by omega) _, ?_⟩
      show pw n lt (if lt (gA p 0) (gA p (m - 1)) = true then _ else _) _
      cases d : lt (gA p 0) (gA p (m - 1)) with
      | true =>
        rw [if_pos rfl]
        exact ⟨hp, ri, m1, mN⟩
      | false =>
        rw [if_neg (by decide)]
        have al : ∀ i, i < m → Alk lt (gA p i) (gA p 0) := fun i hi => ⟨ri 0 i (by omega) hi, O.ntr _ _ _ (ri i (m - 1) (by omega) (by omega)) d⟩
        have e : ∀ k, k < m → gA (kas_rev p 0 m) k = gA p (m - 1 - k) := fun k hk => by
          rw [gA_mir (by omega), if_pos (by omega), Nat.zero_add]
        refine pw_descPart O hN (hp.rev _ _) m1 (by omega) (fun i j ij jm => ?_) ?_
        · rw [e i (by omega), e j jm]
          have z1 := al (m - 1 - i) (by omega)
          have z2 := al (m - 1 - j) (by omega)
          exact (O.alkT z1 ⟨z2.2, z2.1⟩).1
        · rw [gA_mir (by omega), if_neg (by omega), e (m - 1) (by omega), show m - 1 - (m - 1) = 0 by omega]
          exact O.up c d
    · rw [if_neg m2]
      have em : m = 1 := by omega
      subst em
      exact pw_descPart O hN hp (Nat.le_refl _) (by omega) (Fal.one O p) c
theorem pw_place {p : Array Nat} (hp : OkP n p) {k : Nat} (hk : k < n) (h : Ris lt p k) : ∀ (f l r : Nat), l ≤ r → r ≤ k → r - l ≤ f → (∀ i, i < l → lt (gA p k) (gA p i) = false) → (∀ i, r ≤ i → i < k → lt (gA p k) (gA p i) = true) →
    pw n lt (kas_place p k f l r) (fun l' => l' ≤ k ∧ (∀ i, i < l' → lt (gA p k) (gA p i) = false) ∧ ∀ i, l' ≤ i → i < k → lt (gA p k) (gA p i) = true)
  | 0, l, r, h1, h2, h3, a, b => ⟨by omega, a, fun i i1 i2 => b i (by omega) i2⟩
  | f + 1, l, r, h1, h2, h3, a, b => by
    show pw n lt (if l ≥ r then _ else _) _
    by_cases e : l ≥ r
    · rw [if_pos e]
      exact ⟨by omega, a, fun i i1 i2 => b i (by omega) i2⟩
    · rw [if_neg e]
      refine ⟨hp.lt (by omega) _, hp.lt (by omega) _, ?_⟩
      show pw n lt (if lt (gA p k) (gA p ((l + r) / 2)) = true then _ else _) _
      cases c : lt (gA p k) (gA p ((l + r) / 2)) with
      | true =>
        rw [if_pos rfl]
        exact pw_place hp hk h f l ((l + r) / 2) (by omega) (by omega) (by omega) a fun i i1 i2 => O.up c (h _ i i1 i2)
      | false =>
        rw [if_neg (by decide)]
        exact pw_place hp hk h f ((l + r) / 2 + 1) r (by omega) h2 (by omega) (fun i hi => O.ntr _ _ _ (h i ((l + r) / 2) (by omega) (by omega)) c) b
theorem pw_bin : ∀ (f : Nat) (p : Array Nat) (k : Nat), OkP n p → k + f = n → Ris lt p k → pw n lt (kas_bin f p k) (fun p' => OkP n p' ∧ Ris lt p' n)
  | 0, p, k, hp, hk, h => by
    have : k = n := by omega
    subst this
    exact ⟨hp, h⟩
  | f + 1, p, k, hp, hk, h => by
    have hs := hp.size
    refine pw_bind (pw_mono (fun l hl => ?_) (pw_place O hp (by omega) h k 0 k (by omega) (Nat.le_refl _) (by omega) (fun i hi => absurd hi (by omega)) (fun i i1 i2 => absurd i1 (by omega))))
    obtain ⟨lk, lo, hi⟩ := hl
    refine pw_bin f _ (k + 1) (hp.bub _ _) (by omega) (fun i j ij jk => ?_)
    have e := fun x => gA_bub (p := p) (src := k) (d := k - l) (by omega) (by omega) x
    rw [e i, e j, show k - (k - l) = l by omega]
    by_cases j1 : j = l
    · subst j1
      rw [if_pos rfl]
      by_cases i1 : i = j
      · rw [if_pos i1]; exact O.irr _
      · rw [if_neg i1, if_neg (by omega)]
        exact lo i (by omega)
    · rw [if_neg j1]
      by_cases j2 : l < j ∧ j ≤ k
      · rw [if_pos j2]
        by_cases i1 : i = l
        · rw [if_pos i1]
          exact O.asym _ _ (hi (j - 1) (by omega) (by omega))
        · rw [if_neg i1]
          by_cases i2 : l < i ∧ i ≤ k
          · rw [if_pos i2]
            exact h _ _ (by omega) (by omega)
          · rw [if_neg i2]
            exact h _ _ (by omega) (by omega)
      · rw [if_neg j2, if_neg (by omega), if_neg (by omega)]
        exact h _ _ ij (by omega)
theorem pw_sort (h2 : 1 ≤ n) : pw n lt (kas_sort n) (fun p => OkP n p ∧ Ris lt p n) := by
  refine pw_bind (pw_mono (fun r hr => ?_) (pw_count O (Nat.le_refl n) h2 (p := List.toArray (List.range n)) (by unfold OkP; simp)))
  obtain ⟨m, p⟩ := r
  obtain ⟨ok, ri, m1, mn⟩ := hr
  dsimp only at ok ri m1 mn ⊢
  by_cases e : m < n
  · rw [if_pos e, Nat.max_eq_left m1]
    exact pw_bin O (n - m) p m ok (by omega) ri
  · rw [if_neg e]
    have : m = n := by omega
    subst this
    exact ⟨ok, ri⟩
end
end L2
set_option Elab.async false
set_option linter.all false
set_option maxRecDepth 100000
set_option maxHeartbeats 4000000
namespace L2
open PySem PySem.Spec PyProof.Rows PySem.W Ck
section
variable {prog : Program} {w : World} {A : Around} {E : Value → Shared → Prop} {s : Shared}
noncomputable def Asks (prog : Program) (w : World) (A : Around) (vs : List Value) (lt : Nat → Nat → Bool) (s1 : Shared) : Prop :=
  ∀ (Q : SortKind → Shared → Prop), (∀ κ, (∀ (i j : Nat) (C : Bool → Shared → Prop), i < vs.length → j < vs.length → C (lt i j) s1 → kas_ask prog w A κ vs i j C s1) → Q κ s1) → wpAny (model prog w) A (keyKind' vs.toArray) Q (fun _ _ => False) s1
noncomputable def outOf (vs : List Value) (p : Array Nat) : List Value := p.toList.map fun i => vs.getD i Value.none
theorem out_range (vs : List Value) : outOf vs (List.toArray (List.range vs.length)) = vs := by
  unfold outOf
  refine List.ext_getElem (by simp) fun i h1 h2 => ?_
  simp [h2]
theorem zip_snd (vs : List Value) : (vs.toArray.zip vs.toArray).map (·.2) = vs.toArray := by
  refine Array.ext (by simp) fun i h1 h2 => ?_
  simp
theorem sort_ask {a : Addr} {vs : List Value} {n : Nat} {P : PySem.Fin → Shared → Prop} {lt : Nat → Nat → Bool} (O : Ordr lt) (ho : s.heap.get? a = some (seqObj "list" vs.toArray n)) (h64 : vs.length < 64)
    (hk : ∀ h6 : Heap, (∀ b o, b ≠ a → s.heap.get? b = some o → h6.get? b = some o) → 2 ≤ vs.length → Asks prog w A vs lt { s with heap := h6 })
    (fin : ∀ p : Array Nat, OkP vs.length p → Ris lt p vs.length → P (.done (.ret .none)) { s with heap := sortedHeap s.heap a vs (outOf vs p).toArray }) : wpAny (model prog w) A (Builtin.«list.sort» ⟨[.ref a], []⟩) P E s := by
  have ha : a < s.heap.objs.size := Heap.lt_size ho
  have hz : vs.length ≤ sizeLine := by rw [sizeLine_eq]; omega
  obtain ⟨e1, ho1⟩ : ∃ e, (s.heap.update a (Obj.mapSeq fun _ => (#[] : Array Value))).get? a = some (seqObj "list" #[] e) := ⟨_, get?_update_seq ho _⟩
  have keep : ∀ b o, (s.heap.update a (Obj.mapSeq fun _ => (#[] : Array Value))).get? b = some o → (((s.heap.update a (Obj.mapSeq fun _ => (#[] : Array Value))).push (seqObj "tuple" vs.toArray 0)).push (seqObj "list" #[] 0)).get? b = some o := fun b o e => Heap.get?_push_of_some _ (Heap.get?_push_of_some _ e)
  have old : ∀ b o, b ≠ a → s.heap.get? b = some o → (((s.heap.update a (Obj.mapSeq fun _ => (#[] : Array Value))).push (seqObj "tuple" vs.toArray 0)).push (seqObj "list" #[] 0)).get? b = some o := fun b o hb e => keep b o (by rw [Heap.get?_update_ne _ _ _ _ hb]; exact e)
  have ho6 := keep _ _ ho1
  rw [list_sort_plain]
  refine wpAny_bind (listItems_at ho rfl (wpAny_bind (listUpdate_at ho rfl (wpAny_bind (seqEpoch_at ho1 rfl (wpAny_bind (wpAny_newTuple (wpAny_bind (wpAny_newList (wpAny_holding ?_) (Nat.zero_le _))) hz)))) (by rw [List.size_toArray]; exact hz) (Nat.zero_le _))))
  show wpAny (model prog w) A _ P E { s with heap := ((s.heap.update a (Obj.mapSeq fun _ => (#[] : Array Value))).push (seqObj "tuple" vs.toArray 0)).push (seqObj "list" #[] 0) }
  dsimp only
  by_cases h2 : vs.toArray.size < 2
  · rw [if_pos h2, if_pos h2]
    refine wpAny_bind (wpAny_pure ?_)
    rw [StateT.run_pure]
    refine wpAny_bind (wpAny_pure ?_)
    dsimp only
    have ez : (arrOf (SortSt.mk' general' (vs.toArray.zip vs.toArray) #[] 7 none)).map (·.2) = vs.toArray := zip_snd vs
    rw [ez]
    refine wpAny_bind (seqEpoch_at ho6 rfl (wpAny_bind (listUpdate_at ho6 rfl ?_ (Nat.zero_le _) (by rw [List.size_toArray]; omega))))
    simp only [bne_self_eq_false, Bool.false_eq_true, if_false]
    have f := fin (List.toArray (List.range vs.length)) (by unfold OkP; simp) (fun i j ij jl => by
      rw [List.size_toArray] at h2
      have e : i = j := by omega
      subst e
      exact O.irr _)
    rw [out_range] at f
    exact wpAny_pure f
  · rw [if_neg h2, if_neg h2]
    rw [List.size_toArray] at h2
    refine wpAny_bind (wpAny_mono (hk _ old (by omega) _ fun κ ask => ?_) (fun _ _ q => q) fun _ _ x => x.elim)
    refine wpAny_bind (wpAny_mono (kat_run (ks := vs) (Q := fun st' s' => ∃ p : Array Nat, p.size = vs.length ∧ arrOf st' = p.map (kas_item (vs.toArray.zip vs.toArray)) ∧ failedOf st' = none ∧ s' = _ ∧ OkP vs.length p ∧ Ris lt p vs.length) rfl (by omega) h64
      (fun p' st' s' a1 a2 a3 a4 => ⟨p', a1, a2, a3, a4⟩) (pw_wp ask (pw_sort O (by omega)))) ?_ fun _ _ e => e)
    rintro ⟨⟨⟩, st'⟩ s' ⟨p, hp, har, hf, rfl, ok, ri⟩
    dsimp only
    rw [kat_snds rfl har]
    refine wpAny_bind (seqEpoch_at ho6 rfl (wpAny_bind (listUpdate_at ho6 rfl ?_ (Nat.zero_le _) (by rw [List.size_toArray, List.length_map, Array.length_toList, hp]; omega))))
    rw [hf]
    simp only [bne_self_eq_false, Bool.false_eq_true, if_false]
    exact wpAny_pure (fin p ok ri)
theorem sorted_ask {l : Addr} {vs : List Value} {Q : Value → Shared → Prop} {lt : Nat → Nat → Bool} (O : Ordr lt) (hl : s.heap.IsList l vs.toArray) (h64 : vs.length < 64)
    (hk : ∀ h6 : Heap, (∀ b o, s.heap.get? b = some o → h6.get? b = some o) → 2 ≤ vs.length → Asks prog w A.in1.in1 vs lt { s with heap := h6 })
    (fin : ∀ p : Array Nat, OkP vs.length p → Ris lt p vs.length → Q (.ref (s.heap.objs.size + 1)) { s with heap := sortedAll s.heap vs (outOf vs p).toArray }) : wpAny (model prog w) A (call (.builtin "sorted") [.ref l]) Q E s := by
  have hz : vs.length ≤ sizeLine := by rw [sizeLine_eq]; omega
  have hsz : ((s.heap.push (seqObj "list" #[] 0)).update s.heap.objs.size (Obj.mapSeq (· ++ vs.toArray))).objs.size = s.heap.objs.size + 1 := by rw [Heap.size_update, size_push']
  have hoL : (((s.heap.push (seqObj "list" #[] 0)).update s.heap.objs.size (Obj.mapSeq (· ++ vs.toArray))).push (seqObj "list" vs.toArray 0)).get? (s.heap.objs.size + 1) = some (seqObj "list" vs.toArray 0) := by rw [← hsz]; exact Heap.get?_push_size _ rfl
  have keep : ∀ b o, s.heap.get? b = some o → (((s.heap.push (seqObj "list" #[] 0)).update s.heap.objs.size (Obj.mapSeq (· ++ vs.toArray))).push (seqObj "list" vs.toArray 0)).get? b = some o := fun b o q => by
    have hlt : b < s.heap.objs.size := Heap.lt_size q
    refine Heap.get?_push_of_some _ ?_
    rw [Heap.get?_update_ne _ _ _ _ (Nat.ne_of_lt hlt)]
    exact Heap.get?_push_of_some _ q
  refine Calls.call_function_entry kind_sorted plain_sorted entry_sorted (args_sorted1 _) ?_
  unfold Builtin.«sorted»
  refine wpAny_bind (m := checkCount "sorted" 1 1 _) (wpAny_pure (wpAny_bind (collect_list hl (wpAny_bind (wpAny_newList ?_ hz)) hz)))
  show wpAny _ _ _ _ _ { s with heap := ((s.heap.push (seqObj "list" #[] 0)).update s.heap.objs.size (Obj.mapSeq (· ++ vs.toArray))).push (seqObj "list" vs.toArray 0) }
  rw [hsz]
  refine wpAny_bind (wpAny_holding (wpAny_call_entry slot_list_sort ⟨_, hoL, rfl⟩ entry_list_sort (sort_ask (s := { s with heap := ((s.heap.push (seqObj "list" #[] 0)).update s.heap.objs.size (Obj.mapSeq (· ++ vs.toArray))).push (seqObj "list" vs.toArray 0) }) O hoL h64 (fun h6 old => hk h6 fun b o q => old b o (Nat.ne_of_lt (Nat.lt_succ_of_lt (Heap.lt_size q))) (keep b o q)) fun p ok ri => ⟨_, rfl, ?_⟩) (args_list_sort _)))
  exact wpAny_pure ⟨_, rfl, fin p ok ri⟩
noncomputable def leP (p q : Pair) : Prop := p.1 < q.1 ∨ (p.1 = q.1 ∧ p.2 ≤ q.2)
end
section
variable {X : Cx}
theorem pairs_take {α β : Type} {R : α → β → Prop} {as : List α} {bs : List β} (h : Paired R as bs) (da : α) (db : β) : ∀ is : List Nat, (∀ i ∈ is, i < as.length) → Paired R (is.map fun i => as.getD i da) (is.map fun i => bs.getD i db)
  | [], _ => .nil
  | i :: is, hi => by
    refine .cons ?_ (pairs_take h da db is fun j hj => hi j (List.mem_cons_of_mem _ hj))
    have hl := hi i (List.mem_cons_self ..)
    have go : ∀ {as : List α} {bs : List β}, Paired R as bs → ∀ i, i < as.length → R (as.getD i da) (bs.getD i db) := by
      intro as bs h
      induction h with
      | nil => intro i hi; simp at hi
      | cons r t ih =>
        intro i hi
        cases i with
        | zero => simpa using r
        | succ i => simpa using ih i (by simpa using hi)
    exact go h i hl
theorem take_perm {α : Type} (d : α) (l : List α) {is : List Nat} (h : is.Perm (List.range l.length)) : (is.map fun i => l.getD i d).Perm l := by
  refine (h.map _).trans ?_
  have e : (List.range l.length).map (fun i => l.getD i d) = l := List.ext_getElem (by simp) fun i h1 h2 => by simp [h2]
  rw [e]
end
end L2
set_option Elab.async false
set_option linter.all false
set_option maxRecDepth 100000
set_option maxHeartbeats 4000000
namespace L2
open PySem PySem.Spec PyProof.Rows PySem.W
section
variable {prog : Program} {w : World} {A : Around} {E : Value → Shared → Prop} {s : Shared} {R : Result → Shared → Prop} {d : Value} {it : Addr} {fp wr : List Addr} {n : Nat} {P : Nat → Value → Prop} {St : Nat → Heap → Prop}
end
section
variable {X : Cx} {e : Expr} {es : List Expr} {kws : List Keyword} {p pos : Pos} {t tk : TA} {x : Str} {id : String} {ks : List Str} {r : List V → List V → Hp → VK → Prop}
end
end L2
set_option Elab.async false
set_option linter.all false
set_option maxRecDepth 100000
set_option maxHeartbeats 4000000
namespace L2
open PySem PySem.Spec PyProof.Rows
section
variable {X : Cx}
end
end L2
namespace Ck
open PySem L2
noncomputable def Cut (n : Nat) (p : Pair) : Prop := 0 ≤ p.1 ∧ p.1 + 1 < p.2 ∧ p.2 ≤ (n : Int) + 1 ∧ ¬ (p.1 = 0 ∧ p.2 = (n : Int) + 1)
structure Flo (n : Nat) (ps : List Pair) : Prop where
  cut : ∀ p ∈ ps, Cut n p
  ris : ps.Pairwise leP
  len : ps.length ≤ n
noncomputable def sides (i j : Nat) : List Pair := (if i = 0 then [] else [(0, (i : Int) + 1)]) ++ (if j = 0 then [] else [((i : Int) + 1, (i : Int) + (j : Int) + 2)])
noncomputable def joinF (i j : Nat) (ps qs : List Pair) : List Pair := ps ++ sides i j ++ qs.map (up ((i : Int) + 1))
section
variable {i j : Nat} {ps qs : List Pair} (hp : Flo i ps) (hq : Flo j qs)
include hp hq
variable {cs : List Pair} (hc : cs.Perm (joinF i j ps qs)) (hs : cs.Pairwise leP)
include hc hs
end
end Ck
set_option Elab.async false
set_option linter.all false
set_option maxRecDepth 100000
set_option maxHeartbeats 4000000
namespace L2
open PySem PySem.Spec PyProof.Rows PySem.W PySem.SeqAt Ck
noncomputable def ltL : List Int → List Int → Bool
  | [], [] => false
  | [], _ :: _ => true
  | _ :: _, [] => false
  | a :: as, b :: bs => if a = b then ltL as bs else decide (a < b)
theorem ltL_nilR : ∀ as : List Int, ltL as [] = false
  | [] => rfl
  | _ :: _ => rfl
theorem ltL_asym : ∀ as bs : List Int, ltL as bs = true → ltL bs as = false
  | [], [], h => rfl
  | [], _ :: _, _ => rfl
  | _ :: _, [], h => by cases h
  | a :: as, b :: bs, h => by
    unfold ltL at h ⊢
    by_cases e : a = b
    · rw [if_pos e] at h
      rw [if_pos e.symm]
      exact ltL_asym as bs h
    · rw [if_neg e] at h
      rw [if_neg (fun z => e z.symm)]
      have := of_decide_eq_true h
      exact decide_eq_false (by omega)
theorem ltL_ntr : ∀ as bs cs : List Int, ltL bs as = false → ltL cs bs = false → ltL cs as = false
  | [], _, cs, _, _ => ltL_nilR cs
  | _ :: _, [], _, h, _ => by cases h
  | _ :: _, _ :: _, [], _, h => by cases h
  | a :: as, b :: bs, c :: cs, h1, h2 => by
    unfold ltL at h1 h2 ⊢
    by_cases e1 : b = a
    · rw [if_pos e1] at h1
      by_cases e2 : c = b
      · rw [if_pos e2] at h2
        rw [if_pos (e2.trans e1)]
        exact ltL_ntr as bs cs h1 h2
      · rw [if_neg e2] at h2
        have := of_decide_eq_false h2
        rw [if_neg (fun z => e2 (z.trans e1.symm))]
        exact decide_eq_false (by omega)
    · rw [if_neg e1] at h1
      have d1 := of_decide_eq_false h1
      by_cases e2 : c = b
      · rw [if_pos e2] at h2
        rw [if_neg (fun z => e1 (e2.symm.trans z))]
        exact decide_eq_false (by omega)
      · rw [if_neg e2] at h2
        have := of_decide_eq_false h2
        rw [if_neg (by omega)]
        exact decide_eq_false (by omega)
theorem ordL (rs : List (List Int)) : Ordr fun i j => ltL (rs.getD i []) (rs.getD j []) where
  asym a b h := ltL_asym _ _ h
  ntr a b c h1 h2 := ltL_ntr _ _ _ h1 h2
theorem ints_at {vs : List Value} {ns : List Int} (h : IntsAre vs ns) : ∀ {i : Nat} {n : Int}, ns[i]? = some n → ∃ t, vs[i]? = some (.int n t) := by
  induction h with
  | nil => intro i n e; cases e
  | cons m t h ih =>
    intro i n e
    cases i with
    | zero => simp at e; exact ⟨t, by rw [← e]; rfl⟩
    | succ i => exact ih (by simpa using e)
theorem lt_loop (l b : Addr) (items items2 : Array Value) (ns ms : List Int) (hi : IntsAre items.toList ns) (hm : IntsAre items2.toList ms) (n n2 : Nat) (dd dd2 : Option Addr) (sl sl2 : Array (Option Value)) : ∀ (k i : Nat), ns.length - i = k → i ≤ ns.length → i ≤ ms.length →
    Meets (Builtin.«list.__eq__.loop» ⟨[.ref l, .ref b, rawInt i, rawInt 0], []⟩) (fun A R s => s.heap.get? l = some { cls := .type "list", dict := dd, data := .seq items n, slots := sl } ∧ s.heap.get? b = some { cls := .type "list", dict := dd2, data := .seq items2 n2, slots := sl2 } ∧ R (.ok (.ret (.bool (ltL (ns.drop i) (ms.drop i))))) s) := by
  have l1 : items.size = ns.length := by have := hi.length; simpa using this
  have l2 : items2.size = ms.length := by have := hm.length; simpa using this
  -- one of them is at its end
  have fin : ∀ i : Nat, i ≤ ns.length → i ≤ ms.length → (i = ns.length ∨ i = ms.length) → ltL (ns.drop i) (ms.drop i) = decide (items.size < items2.size) := fun i h1 h2 h => by
    rw [l1, l2]
    by_cases e : i = ns.length
    · rw [List.drop_eq_nil_of_le (as := ns) (by omega)]
      by_cases e2 : i = ms.length
      · rw [List.drop_eq_nil_of_le (by omega)]
        exact (decide_eq_false (by omega)).symm
      · rw [List.drop_eq_getElem_cons (show i < ms.length by omega)]
        exact (decide_eq_true (by omega)).symm
    · rw [List.drop_eq_nil_of_le (as := ms) (by omega), ltL_nilR]
      exact (decide_eq_false (by omega)).symm
  intro k
  induction k with
  | zero =>
    intro i hk hn2 hm2 prog w A R s h
    obtain ⟨hp, g, d, tk, os⟩ := s
    obtain ⟨hl, hb, h⟩ := h
    wp_walk using wpAny_loadPart' hl, wpAny_loadPart' hb
    have n1 : items[((i : Nat) : Int).toNat]? = none := by simp; omega
    rw [n1]
    rw [fin i hn2 hm2 (by omega)] at h
    wp_walk using wpAny_loadPart' hl, wpAny_loadPart' hb
    exact h
  | succ k ih =>
    intro i hk hn2 hm2 prog w A R s h
    obtain ⟨hp, g, d, tk, os⟩ := s
    obtain ⟨hl, hb, h⟩ := h
    have li : i < ns.length := by omega
    obtain ⟨t1, g1⟩ := ints_at hi (List.getElem?_eq_getElem li)
    have i1 : items[((i : Nat) : Int).toNat]? = some (.int ns[i] t1) := by simpa using g1
    wp_walk using wpAny_loadPart' hl, wpAny_loadPart' hb
    rw [i1]
    by_cases lm : i < ms.length
    · obtain ⟨t2, g2⟩ := ints_at hm (List.getElem?_eq_getElem lm)
      have i2 : items2[((i : Nat) : Int).toNat]? = some (.int ms[i] t2) := by simpa using g2
      rw [i2]
      rw [List.drop_eq_getElem_cons li, List.drop_eq_getElem_cons lm] at h
      unfold ltL at h
      refine wpAny_bind (wpAny_eqBool_int ?_)
      by_cases e : ns[i] = ms[i]
      · rw [if_pos e] at h
        rw [show (ns[i] == ms[i]) = true by simpa using e]
        wp_walk
        have hc : ((i : Int) + 1) = ((i + 1 : Nat) : Int) := by omega
        rw [hc]
        exact ⟨plainId_quiet MeetsSeq3.plain_eq_loop _, codeAny_builtin MeetsSeq3.entry_eq_loop (by
          rw [Around.under_plainId MeetsSeq3.plain_eq_loop _]
          exact ih (i + 1) (by omega) (by omega) (by omega) prog w A R _ ⟨hl, hb, h⟩)⟩
      · rw [if_neg e] at h
        rw [show (ns[i] == ms[i]) = false by simpa using e]
        wp_walk using wpAny_loadPart' hl, wpAny_loadPart' hb
        rw [i1, i2]
        refine wpAny_bind (wpAny_lt_int ?_)
        exact wpAny_pure h
    · have n2' : items2[((i : Nat) : Int).toNat]? = none := by simp; omega
      rw [n2']
      rw [fin i hn2 hm2 (by omega)] at h
      wp_walk using wpAny_loadPart' hl, wpAny_loadPart' hb
      exact h
theorem list_lt (l b : Addr) (items items2 : Array Value) (ns ms : List Int) (hi : IntsAre items.toList ns) (hm : IntsAre items2.toList ms) (n n2 : Nat) (dd dd2 : Option Addr) (sl sl2 : Array (Option Value)) :
    Meets (Builtin.«list.__lt__» ⟨[.ref l, .ref b], []⟩) (fun A R s => s.heap.get? l = some { cls := .type "list", dict := dd, data := .seq items n, slots := sl } ∧ s.heap.get? b = some { cls := .type "list", dict := dd2, data := .seq items2 n2, slots := sl2 } ∧ R (.ok (.ret (.bool (ltL ns ms)))) s) := by
  intro prog w A R s h
  obtain ⟨hp, g, d, tk, os⟩ := s
  obtain ⟨hl, hb, h⟩ := h
  have f3 := AutoSeq1.sub_list_list
  wp_walk using wpAny_loadPart' hl, wpAny_loadPart' hb
  exact ⟨plainId_quiet MeetsSeq3.plain_eq_loop _, codeAny_builtin MeetsSeq3.entry_eq_loop (by
    rw [Around.under_plainId MeetsSeq3.plain_eq_loop _]
    exact lt_loop l b items items2 ns ms hi hm n n2 dd dd2 sl sl2 _ 0 rfl (Nat.zero_le _) (Nat.zero_le _) prog w A R _ ⟨hl, hb, by simpa using h⟩)⟩
section
variable {prog : Program} {w : World} {A : Around} {E : Value → Shared → Prop} {s : Shared}
theorem oneLt_list {l b : Addr} {its jts : List Value} {ns ms : List Int} {n n2 : Nat} {Q : Bool → Shared → Prop} (hu : A.units < cLine) (hi : IntsAre its ns) (hm : IntsAre jts ms) (hl : s.heap.get? l = some { cls := .type "list", data := .seq its.toArray n }) (hb : s.heap.get? b = some { cls := .type "list", data := .seq jts.toArray n2 }) (h : Q (ltL ns ms) s) :
    wpAny (model prog w) A (oneLt' true (.ref l) (.ref b)) Q E s := by
  rw [oneLt'_eq]
  simp only [if_true]
  refine wpAny_bind (wpAny_cRoomFor hu (wpAny_bind (wpAny_callSpecialIfBound?_slot (T := "list") ⟨_, hl, rfl⟩ F.slot_list_lt (call_meets F.slot_list_lt ⟨_, hl, rfl⟩ F.entry_list_lt (F.args_list_lt_2 _ _) (list_lt l b its.toArray jts.toArray ns ms hi hm n n2 none none #[] #[]) ⟨hl, hb, ?_⟩))))
  exact wpAny_truthy_bool h
noncomputable def LiV (h : Heap) (vs : List Value) (rs : List (List Int)) : Prop := Paired (fun (v : Value) (r : List Int) => ∃ a its n, v = .ref a ∧ IntsAre its r ∧ h.get? a = some { cls := .type "list", data := .seq its.toArray n }) vs rs
theorem LiV.get {h : Heap} : ∀ {vs : List Value} {rs : List (List Int)}, LiV h vs rs → ∀ {i : Nat}, i < vs.length → ∃ a its n, vs.getD i Value.none = .ref a ∧ IntsAre its (rs.getD i []) ∧ h.get? a = some { cls := .type "list", data := .seq its.toArray n }
  | _, _, .nil, i, e => absurd e (by simp)
  | _, _, .cons r t, 0, e => r
  | _, _, .cons r t, i + 1, e => by
    have := LiV.get t (i := i) (by simpa using e)
    simpa using this
theorem LiV.mem {h : Heap} : ∀ {vs : List Value} {rs : List (List Int)}, LiV h vs rs → ∀ v ∈ vs, ∃ a its n, v = .ref a ∧ h.get? a = some { cls := .type "list", data := .seq (List.toArray its) n }
  | _, _, .cons r t, v, hv => by
    rcases List.mem_cons.mp hv with rfl | hv
    · obtain ⟨a, its, n, e, _, g⟩ := r
      exact ⟨a, its, n, e, g⟩
    · exact LiV.mem t v hv
theorem LiV.mono {h h' : Heap} (k : ∀ b o, h.get? b = some o → h'.get? b = some o) : ∀ {vs : List Value} {rs : List (List Int)}, LiV h vs rs → LiV h' vs rs
  | _, _, .nil => .nil
  | _, _, .cons r t => by
    obtain ⟨a, its, n, e, hi, g⟩ := r
    exact .cons ⟨a, its, n, e, hi, k _ _ g⟩ (LiV.mono k t)
theorem asksL {vs : List Value} {rs : List (List Int)} {s1 : Shared} (hu : A.units < cLine) (r : LiV s1.heap vs rs) (h2 : 2 ≤ vs.length) : Asks prog w A vs (fun i j => ltL (rs.getD i []) (rs.getD j [])) s1 := by
  intro Q q
  refine kas_kind (T := .type "list") h2 (fun v hv => ?_) (by decide) (by decide) (q _ fun i j C hi hj hc => ?_)
  · obtain ⟨a, its, n, rfl, g⟩ := r.mem v hv
    exact (Looks.ld g).andThen .now
  · obtain ⟨a, its, n, e1, i1, g1⟩ := r.get hi
    obtain ⟨b, jts, n2, e2, i2, g2⟩ := r.get hj
    unfold kas_ask
    rw [e1, e2, keyLt'_oneType]
    exact oneLt_list hu i1 i2 g1 g2 hc
end
end L2
set_option Elab.async false
set_option linter.all false
set_option maxRecDepth 100000
set_option maxHeartbeats 4000000
namespace Ck
open PySem L2
noncomputable abbrev RoomsAt (H0 H : Hp) (a : Addr) : List Addr → List (List Int) → Prop := Paired (fun (b : Addr) (ns : List Int) => H b = some (.lst (ns.map V.int)) ∧ H0 b = none ∧ b ≠ a)
noncomputable def LLs (H0 H : Hp) (a : Addr) (rs : List (List Int)) : Prop := ∃ bs : List Addr, H a = some (.lst (bs.map V.ref)) ∧ RoomsAt H0 H a bs rs ∧ bs.Nodup
theorem LLs.nil {H0 H : Hp} {a : Addr} (h : H a = some (.lst [])) : LLs H0 H a [] := ⟨[], h, .nil, List.nodup_nil⟩
theorem LLs.same {H0 H H' : Hp} {a : Addr} {rs : List (List Int)} (h : LLs H0 H a rs) (s : Same H H') : LLs H0 H' a rs :=
  let ⟨bs, e, r, n⟩ := h
  ⟨bs, s _ _ e, Paired.mapP r fun _ _ ⟨p, q⟩ => ⟨s _ _ p, q⟩, n⟩
theorem LLs.since {H0 H1 H : Hp} {a : Addr} {rs : List (List Int)} (h : LLs H0 H a rs) (s : Same H1 H0) : LLs H1 H a rs :=
  let ⟨bs, e, r, n⟩ := h
  ⟨bs, e, Paired.mapP r fun _ _ ⟨p, q, z⟩ => ⟨p, s.free q, z⟩, n⟩
theorem LLs.len {H0 H : Hp} {a : Addr} {rs : List (List Int)} (h : LLs H0 H a rs) : ∃ xs, H a = some (.lst xs) ∧ xs.length = rs.length :=
  let ⟨bs, e, r, _⟩ := h
  ⟨_, e, by rw [List.length_map]; exact Paired.length r⟩
theorem RoomsAt.get {H0 H : Hp} {a : Addr} : ∀ {bs : List Addr} {rs : List (List Int)}, RoomsAt H0 H a bs rs → ∀ {j : Nat} {ns : List Int}, rs[j]? = some ns → ∃ b, bs[j]? = some b ∧ H b = some (.lst (ns.map V.int)) ∧ H0 b = none ∧ b ≠ a
  | _, _, .nil, j, ns, e => by cases e
  | _, _, .cons r t, 0, ns, e => by
    rw [List.getElem?_cons_zero] at e
    cases e
    exact ⟨_, rfl, r⟩
  | _, _, .cons r t, j + 1, ns, e => RoomsAt.get t (j := j) (by simpa using e)
theorem LLs.get {H0 H : Hp} {a : Addr} {rs : List (List Int)} (h : LLs H0 H a rs) {xs : List V} (hx : H a = some (.lst xs)) {j : Nat} {ns : List Int} (e : rs[j]? = some ns) : ∃ b, xs[j]? = some (.ref b) ∧ H b = some (.lst (ns.map V.int)) ∧ H0 b = none ∧ b ≠ a := by
  obtain ⟨bs, e1, r, _⟩ := h
  rw [hx] at e1
  cases e1
  obtain ⟨b, h1, h2⟩ := r.get e
  exact ⟨b, by rw [List.getElem?_map, h1]; rfl, h2⟩
theorem RoomsAt.updC {H0 H : Hp} {a c : Addr} {o : HO} : ∀ {bs : List Addr} {rs : List (List Int)}, RoomsAt H0 H a bs rs → (∀ b ∈ bs, b ≠ c) → RoomsAt H0 (upd H c o) a bs rs
  | _, _, .nil, _ => .nil
  | _, _, .cons ⟨p, q⟩ t, n => .cons ⟨(upd_ne (n _ (by simp))).trans p, q⟩ (RoomsAt.updC t fun b hb => n b (by simp [hb]))
theorem RoomsAt.all {H0 H : Hp} {a : Addr} : ∀ {bs : List Addr} {rs : List (List Int)}, RoomsAt H0 H a bs rs → ∀ b ∈ bs, (∃ ns : List Int, H b = some (.lst (ns.map V.int))) ∧ H0 b = none ∧ b ≠ a
  | _, _, .nil, b, hb => by cases hb
  | _, _, .cons ⟨p, q⟩ t, b, hb => by
    rcases List.mem_cons.mp hb with rfl | z
    · exact ⟨⟨_, p⟩, q⟩
    · exact RoomsAt.all t b z
theorem LLs.updC {H0 H : Hp} {a c : Addr} {o o' : HO} {rs : List (List Int)} (h : LLs H0 H a rs) (hc : H0 c = some o') (ne : a ≠ c) : LLs H0 (upd H c o) a rs := by
  obtain ⟨bs, e, r, n⟩ := h
  exact ⟨bs, (upd_ne ne).trans e, r.updC (fun b hb z => by have := (r.all b hb).2.1; rw [z, hc] at this; cases this), n⟩
theorem RoomsAt.snoc {H0 H : Hp} {a b : Addr} {ns : List Int} (hb : H b = some (.lst (ns.map V.int))) (h0 : H0 b = none) (ne : b ≠ a) : ∀ {bs : List Addr} {rs : List (List Int)}, RoomsAt H0 H a bs rs → RoomsAt H0 H a (bs ++ [b]) (rs ++ [ns])
  | _, _, .nil => .cons ⟨hb, h0, ne⟩ .nil
  | _, _, .cons r t => .cons r (RoomsAt.snoc hb h0 ne t)
theorem LLs.snoc {H0 H : Hp} {a b : Addr} {rs : List (List Int)} {xs : List V} (h : LLs H0 H a rs) (hx : H a = some (.lst xs)) (hb : H b = none) (h0 : H0 b = none) (ns : List Int) :
    LLs H0 (upd (upd H b (.lst (ns.map V.int))) a (.lst (xs ++ [.ref b]))) a (rs ++ [ns]) := by
  obtain ⟨bs, e, r, n⟩ := h
  rw [hx] at e
  cases e
  have ne : b ≠ a := fun z => by rw [z, hx] at hb; cases hb
  have nb : ∀ c ∈ bs, c ≠ b := fun c hc z => by
    obtain ⟨⟨ms, e⟩, _⟩ := r.all c hc
    rw [z, hb] at e
    cases e
  have r1 : RoomsAt H0 (upd H b (.lst (ns.map V.int))) a bs rs := r.updC nb
  have r2 : RoomsAt H0 (upd (upd H b (.lst (ns.map V.int))) a (.lst (bs.map V.ref ++ [.ref b]))) a bs rs := r1.updC fun c hc => (r.all c hc).2.2
  refine ⟨bs ++ [b], by rw [upd_same, List.map_append]; rfl, RoomsAt.snoc ((upd_ne ne).trans upd_same) h0 ne r2, ?_⟩
  refine List.nodup_append.mpr ⟨n, by simp, ?_⟩
  intro c hc d hd
  have : d = b := by simpa using hd
  rw [this]
  exact nb c hc
theorem RoomsAt.put {H0 H : Hp} {a b : Addr} {ms : List Int} : ∀ {bs : List Addr} {rs : List (List Int)} {j : Nat}, RoomsAt H0 H a bs rs → bs.Nodup → bs[j]? = some b → RoomsAt H0 (upd H b (.lst (ms.map V.int))) a bs (rs.set j ms)
  | _, _, j, .nil, _, e => by cases e
  | _, _, 0, .cons r t, n, e => by
    rw [List.getElem?_cons_zero] at e
    cases e
    rw [List.nodup_cons] at n
    exact .cons ⟨upd_same, r.2⟩ (RoomsAt.updC t fun c hc z => n.1 (z ▸ hc))
  | _, _, j + 1, .cons r t, n, e => by
    rw [List.nodup_cons] at n
    have e' := e
    rw [List.getElem?_cons_succ] at e'
    have hb := List.mem_of_getElem? e'
    exact .cons ⟨(upd_ne (fun z => n.1 (by rw [z]; exact hb))).trans r.1, r.2⟩ (RoomsAt.put t n.2 e')
theorem LLs.put {H0 H : Hp} {a b : Addr} {rs : List (List Int)} {xs : List V} (h : LLs H0 H a rs) (hx : H a = some (.lst xs)) {j : Nat} (e : xs[j]? = some (.ref b)) (ms : List Int) : LLs H0 (upd H b (.lst (ms.map V.int))) a (rs.set j ms) := by
  obtain ⟨bs, e1, r, n⟩ := h
  rw [hx] at e1
  cases e1
  have e2 : bs[j]? = some b := by
    rw [List.getElem?_map] at e
    cases hb : bs[j]? with
    | none => rw [hb] at e; cases e
    | some c =>
      rw [hb] at e
      have : V.ref c = V.ref b := by simpa using e
      cases this
      rfl
  exact ⟨bs, (upd_ne (Ne.symm (r.all b (List.mem_of_getElem? e2)).2.2)).trans hx, r.put n e2, n⟩
theorem LLs.eqD {K : PySem.W.Frag} {H0 H1 H : Hp} {a b : Addr} {rs : List (List Int)} (h : LLs H0 H a rs) (k : LLs H1 H b rs) (ne : a ≠ b) : EqD K H 2 (.ref a) (.ref b) true := by
  obtain ⟨xs, ex, lx⟩ := h.len
  obtain ⟨ys, ey, ly⟩ := k.len
  refine EqD.lstT ne (SqL.of ex) (SqL.of ey) (by omega) fun j x y e1 e2 => ?_
  have hj : j < rs.length := by rw [← lx]; exact (List.getElem?_eq_some_iff.mp e1).1
  obtain ⟨c, f1, g1, _⟩ := h.get ex (List.getElem?_eq_getElem hj)
  obtain ⟨d, f2, g2, _⟩ := k.get ey (List.getElem?_eq_getElem hj)
  rw [f1] at e1
  rw [f2] at e2
  cases e1
  cases e2
  by_cases z : c = d
  · subst z
    exact .same
  · exact EqD.lstT z (SqL.of g1) (SqL.of g2) rfl fun j x y e1 e2 => EqD.rowT e1 e2
inductive Rom : List (List Int) → List Nat → Nat → Prop
  | start : Rom [] [] 0
  | shut {rs : List (List Int)} {p : List Nat} {m k : Nat} : Rom rs (p ++ [m]) k → Rom rs p k
  | opn {rs : List (List Int)} {p : List Nat} {k : Nat} : Rom rs p k → Rom (rs ++ [[(k : Int)]]) (p ++ [rs.length]) (k + 1)
  | put {rs : List (List Int)} {p : List Nat} {m k : Nat} {r : List Int} : Rom rs (p ++ [m]) k → rs[m]? = some r → Rom (rs.set m (r ++ [(k : Int)])) (p ++ [m]) (k + 1)
theorem Rom.lens {rs : List (List Int)} {p : List Nat} {k : Nat} (h : Rom rs p k) : rs.length ≤ k ∧ (∀ m ∈ p, m < rs.length) ∧ p.length ≤ rs.length ∧ ∀ r ∈ rs, r.length ≤ k := by
  induction h with
  | start => simp
  | @shut rs p m k _ ih =>
    obtain ⟨h1, h2, h3, h4⟩ := ih
    exact ⟨h1, fun x hx => h2 x (by simp [hx]), by simp at h3; omega, h4⟩
  | @opn rs p k _ ih =>
    obtain ⟨h1, h2, h3, h4⟩ := ih
    refine ⟨by simp; omega, fun x hx => ?_, by simp; omega, fun r hr => ?_⟩
    · rcases List.mem_append.mp hx with z | z
      · have := h2 x z; simp; omega
      · have : x = rs.length := by simpa using z
        simp; omega
    · rcases List.mem_append.mp hr with z | z
      · have := h4 r z; omega
      · have : r = [(k : Int)] := by simpa using z
        rw [this]; simp
  | @put rs p m k r _ hr ih =>
    obtain ⟨h1, h2, h3, h4⟩ := ih
    refine ⟨by rw [List.length_set]; omega, fun x hx => by rw [List.length_set]; exact h2 x hx, by rw [List.length_set]; exact h3, fun s hs => ?_⟩
    rcases List.mem_or_eq_of_mem_set hs with z | z
    · have := h4 s z; omega
    · have := h4 r (List.mem_of_getElem? hr)
      rw [z]; simp; omega
end Ck
namespace Ck
open PySem L2
noncomputable def Stay (H H' : Hp) : Prop := ∀ b, H' b = none → H b = none
theorem Stay.refl (H : Hp) : Stay H H := fun _ h => h
theorem Stay.free' {H H' : Hp} {b : Addr} (s : Stay H H') (h : H' b = none) : H b = none := s b h
theorem Stay.upd {H H' : Hp} (s : Stay H H') (a : Addr) (o : HO) : Stay H (L2.upd H' a o) := fun b h => s b (by
  by_cases e : b = a
  · rw [e, upd_same] at h; cases h
  · rw [upd_ne e] at h; exact h)
theorem Stay.new {H H' : Hp} {o : HO} (s : Stay H H') (a : Addr) : Stay H (L2.upd H' a o) := s.upd a o
end Ck
set_option Elab.async false
set_option linter.all false
set_option maxRecDepth 100000
set_option maxHeartbeats 4000000
namespace Ck
open PySem PySem.Spec PyProof.Rows L2
theorem rooms_vals {X : Cx} {pins : List (Addr × Obj)} {σ : L2.St} {H H0 : Hp} {s : Shared} {a : Addr} (I : Inv X pins σ H s) : ∀ {bs : List Addr} {rs : List (List Int)} {vs : List Value}, RoomsAt H0 H a bs rs → Vals (bs.map V.ref) vs → LiV s.heap vs rs
  | _, _, _, .nil, .nil => .nil
  | _, _, _, .cons r t, .cons rv tv => by
    cases rv
    obtain ⟨z, its, n, r', hl, e⟩ := I.lstM r.1
    exact .cons ⟨_, its, n, rfl, intsAre_of r', e⟩ (rooms_vals I t tv)
theorem rooms_same {H H' H0 : Hp} {a a' : Addr} : ∀ {bs : List Addr} {rs : List (List Int)}, RoomsAt H0 H a bs rs → (∀ b ∈ bs, H' b = H b ∧ b ≠ a') → RoomsAt H0 H' a' bs rs
  | _, _, .nil, _ => .nil
  | _, _, .cons ⟨p, q, _⟩ t, k => .cons ⟨(k _ (by simp)).1.trans p, q, (k _ (by simp)).2⟩ (rooms_same t fun b hb => k b (by simp [hb]))
end Ck
namespace L2
open PySem PySem.Spec PyProof.Rows PySem.W Ck
section
variable {X : Cx}
theorem call_sortedL (hu : X.A.units + 100 < cLine) : CallR X (.builtin "sorted") (fun xs H Q => ∃ (p : Addr) (H0 : Hp) (rs : List (List Int)), xs = [.ref p] ∧ LLs H0 H p rs ∧ rs.length < 64 ∧ ∀ (q : Addr) (ss : List (List Int)) (H' : Hp), Same H H' → H q = none → LLs H0 H' q ss → ss.Perm rs → ss.Pairwise (fun a b => ltL b a = false) → (∀ (ws zs : List V), H p = some (.lst ws) → H' q = some (.lst zs) → ∀ v ∈ zs, v ∈ ws) → Q (.ref q) H') := by
  intro pins s σ H xs us Q I r h
  obtain ⟨p, H0, rs, rfl, ⟨bs, hl, ro, nd⟩, h64, q⟩ := h
  obtain ⟨u, rfl, ru⟩ := vals1 r
  cases ru
  obtain ⟨its, r', pl, hz⟩ := I.list (SqL.of hl)
  have lw : bs.length = rs.length := Paired.length ro
  have li : (bs.map V.ref).length = its.length := r'.length
  rw [List.length_map] at li
  have lv := rooms_vals I ro r'
  refine sorted_ask (ordL rs) pl.isList (by omega) (fun h6 old h2 => asksL (s1 := { s with heap := h6 }) (show X.A.units + 1 + 1 < cLine by omega) (lv.mono old) h2) fun g ok ri => ?_
  obtain ⟨e, he⟩ := sortedAll_at s.heap its (outOf its g).toArray
  have hb : ∀ i ∈ g.toList, i < its.length := fun i hi => List.mem_range.mp (ok.mem_iff.mp hi)
  have lg : g.toList.length = its.length := by rw [ok.length_eq, List.length_range]
  have em : (g.toList.map fun i => (bs.map V.ref).getD i V.non) = (g.toList.map fun i => bs.getD i 0).map V.ref := by
    rw [List.map_map]
    refine List.map_congr_left fun i hi => ?_
    have := hb i hi
    have l1 : i < bs.length := by omega
    simp [l1]
  have hz2 : ((g.toList.map fun i => bs.getD i 0).map V.ref).length ≤ sizeLine := by rw [List.length_map, List.length_map, lg]; exact sz (by omega)
  have vs2 : Vals ((g.toList.map fun i => bs.getD i 0).map V.ref) (outOf its g) := by
    rw [← em]
    exact pairs_take r' V.non Value.none g.toList (fun i hi => by rw [List.length_map, li]; exact hb i hi)
  have ro2 : RoomsAt H0 H p (g.toList.map fun i => bs.getD i 0) (g.toList.map fun i => rs.getD i []) := pairs_take ro 0 [] g.toList (fun i hi => by rw [li]; exact hb i hi)
  have pm : (g.toList.map fun i => bs.getD i 0).Perm bs := take_perm 0 bs (by rw [li]; exact ok)
  have fr : H (s.heap.objs.size + 1) = none := I.hok.fresh (Nat.le_succ _)
  refine ⟨.ref _, _, I.laid (t' := s.toks) (o := .lst ((g.toList.map fun i => bs.getD i 0).map V.ref)) (fun b u e => sortedAll_old e) (Nat.le_succ _) ⟨hz2, outOf its g, e, vs2, by simpa [seqObj] using he⟩, rfl, ?_⟩
  refine q _ _ _ (Same.new (Same.refl H) fr _) fr ⟨_, upd_same, rooms_same ro2 (fun b hb' => ?_), pm.nodup_iff.mpr nd⟩ (take_perm [] rs (by rw [← lw, li]; exact ok)) ?_ (fun ws zs ew ez v hv => ?_)
  · obtain ⟨⟨ns, hn⟩, _⟩ := ro2.all b hb'
    have : b ≠ s.heap.objs.size + 1 := ne_of_none hn fr
    exact ⟨upd_ne this, this⟩
  · rw [List.pairwise_map]
    have gs : g.size = its.length := by rw [← lg]; simp
    refine List.pairwise_iff_getElem.mpr fun i j hi hj hij => ?_
    have := ri i j (by omega) (by rw [← gs]; simpa using hj)
    unfold gA at this
    simpa [show i < g.size by simpa using hi, show j < g.size by simpa using hj] using this
  · rw [hl] at ew
    cases ew
    rw [upd_same] at ez
    cases ez
    exact (pm.map V.ref).mem_iff.mp hv
end
theorem ltL_anti : ∀ as bs : List Int, ltL as bs = false → ltL bs as = false → as = bs
  | [], [], _, _ => rfl
  | [], _ :: _, h, _ => by cases h
  | _ :: _, [], _, h => by cases h
  | a :: as, b :: bs, h1, h2 => by
    unfold ltL at h1 h2
    by_cases e : a = b
    · rw [if_pos e] at h1
      rw [if_pos e.symm] at h2
      rw [e, ltL_anti as bs h1 h2]
    · rw [if_neg e] at h1
      rw [if_neg (fun z => e z.symm)] at h2
      have := of_decide_eq_false h1
      have := of_decide_eq_false h2
      omega
end L2
namespace Ck
open PySem L2
noncomputable abbrev hd (r : List Int) : Int := r.getD 0 0
noncomputable def iota (k : Nat) : List Int := (List.range k).map fun (i : Nat) => (i : Int)
structure Rms (k : Nat) (rs : List (List Int)) : Prop where
  ne : ∀ r ∈ rs, r ≠ []
  inc : ∀ r ∈ rs, r.Pairwise (· < ·)
  heads : (rs.map hd).Pairwise (· < ·)
  flat : rs.flatten.Perm (iota k)
theorem mem_iota {k : Nat} {x : Int} : x ∈ iota k ↔ 0 ≤ x ∧ x < (k : Int) := by
  unfold iota
  rw [List.mem_map]
  constructor
  · rintro ⟨i, hi, rfl⟩
    have := List.mem_range.mp hi
    omega
  · rintro ⟨h1, h2⟩
    exact ⟨x.toNat, List.mem_range.mpr (by omega), by omega⟩
theorem Rms.rng {k : Nat} {rs : List (List Int)} (h : Rms k rs) {r : List Int} (hr : r ∈ rs) {x : Int} (hx : x ∈ r) : 0 ≤ x ∧ x < (k : Int) :=
  mem_iota.mp (h.flat.mem_iff.mp (List.mem_flatten.mpr ⟨r, hr, hx⟩))
theorem hd_mem {r : List Int} (h : r ≠ []) : hd r ∈ r := by
  cases r with
  | nil => exact absurd rfl h
  | cons a r => exact List.mem_cons_self ..
theorem set_flatten (x : Int) : ∀ (rs : List (List Int)) (m : Nat) (r : List Int), rs[m]? = some r → (rs.set m (r ++ [x])).flatten.Perm (rs.flatten ++ [x])
  | [], m, r, h => by cases h
  | s :: rs, 0, r, h => by
    have e : s = r := by simpa using h
    subst e
    rw [List.set_cons_zero, List.flatten_cons, List.flatten_cons, List.append_assoc, List.append_assoc]
    exact List.Perm.append_left s List.perm_append_comm
  | s :: rs, m + 1, r, h => by
    rw [List.set_cons_succ, List.flatten_cons, List.flatten_cons, List.append_assoc]
    exact List.Perm.append_left s (set_flatten x rs m r (by simpa using h))
theorem iota_succ (k : Nat) : iota (k + 1) = iota k ++ [(k : Int)] := by
  unfold iota
  rw [List.range_succ, List.map_append]
  rfl
theorem Rom.rms {rs : List (List Int)} {p : List Nat} {k : Nat} (h : Rom rs p k) : Rms k rs := by
  induction h with
  | start => exact ⟨fun r h => (by cases h), fun r h => (by cases h), .nil, List.Perm.refl _⟩
  | shut _ ih => exact ih
  | @opn rs p k _ ih =>
    refine ⟨fun r hr => ?_, fun r hr => ?_, ?_, ?_⟩
    · rcases List.mem_append.mp hr with z | z
      · exact ih.ne r z
      · rw [List.mem_singleton.mp z]; simp
    · rcases List.mem_append.mp hr with z | z
      · exact ih.inc r z
      · rw [List.mem_singleton.mp z]; simp
    · rw [List.map_append, List.pairwise_append]
      refine ⟨ih.heads, by simp, fun x hx y hy => ?_⟩
      obtain ⟨r, hr, rfl⟩ := List.mem_map.mp hx
      have : y = (k : Int) := by simpa using hy
      have := ih.rng hr (hd_mem (ih.ne r hr))
      omega
    · rw [List.flatten_append, iota_succ]
      exact List.Perm.append_right _ ih.flat
  | @put rs p m k r _ hr ih =>
    have hrm := List.mem_of_getElem? hr
    have hl : m < rs.length := (List.getElem?_eq_some_iff.mp hr).1
    refine ⟨fun s hs => ?_, fun s hs => ?_, ?_, ?_⟩
    · rcases List.mem_or_eq_of_mem_set hs with z | z
      · exact ih.ne s z
      · rw [z]; simp
    · rcases List.mem_or_eq_of_mem_set hs with z | z
      · exact ih.inc s z
      · rw [z, List.pairwise_append]
        refine ⟨ih.inc r hrm, by simp, fun x hx y hy => ?_⟩
        have : y = (k : Int) := by simpa using hy
        have := ih.rng hrm hx
        omega
    · have e : (rs.set m (r ++ [(k : Int)])).map hd = rs.map hd := by
        rw [List.map_set]
        have e1 : hd (r ++ [(k : Int)]) = hd r := by
          cases r with
          | nil => exact absurd rfl (ih.ne _ hrm)
          | cons a r => rfl
        rw [e1]
        refine List.ext_getElem? fun j => ?_
        rw [List.getElem?_set]
        by_cases z : m = j
        · subst z
          rw [if_pos rfl, if_pos (by rw [List.length_map]; exact hl), List.getElem?_map, hr]
          rfl
        · rw [if_neg z]
      rw [e]
      exact ih.heads
    · rw [iota_succ]
      exact (set_flatten _ rs m r hr).trans (List.Perm.append_right _ ih.flat)
noncomputable def rai (d : Int) (r : List Int) : List Int := r.map (· + d)
section
variable {i : Nat} {ls : List (List Int)} (h : Rms i ls)
include h
variable {j : Nat} {rs : List (List Int)} (h' : Rms j rs)
include h'
end
end Ck
set_option Elab.async false
set_option linter.all false
set_option maxRecDepth 100000
set_option maxHeartbeats 4000000
namespace L2
open PySem PySem.Spec PyProof.Rows
theorem call_list_ofK {X : Cx} {K : PySem.W.Frag} (hK : X.K = K) : CallR X (.type "list") (fun xs H Q => ∃ p ys, xs = [.ref p] ∧ (SqL K H p ys ∨ SqT K H p ys) ∧ ∀ l, H l = none → Q (.ref l) (upd H l (.lst ys))) := by
  subst hK
  exact call_list_of
end L2
namespace Ck
open PySem L2
theorem LLs.at {H0 H : Hp} {a : Addr} {rs : List (List Int)} {xs : List V} (h : LLs H0 H a rs) (hx : H a = some (.lst xs)) {j : Nat} {v : V} (e : xs[j]? = some v) :
    ∃ b ns, v = .ref b ∧ rs[j]? = some ns ∧ H b = some (.lst (ns.map V.int)) ∧ H0 b = none ∧ b ≠ a := by
  obtain ⟨ys, ey, ly⟩ := h.len
  rw [hx] at ey
  cases ey
  have hj : j < rs.length := by rw [← ly]; exact (List.getElem?_eq_some_iff.mp e).1
  obtain ⟨b, h1, h2, h3, h4⟩ := h.get hx (List.getElem?_eq_getElem hj)
  rw [e] at h1
  cases h1
  exact ⟨b, rs[j], rfl, List.getElem?_eq_getElem hj, h2, h3, h4⟩
theorem LLs.push {H0 H H' : Hp} {a b : Addr} {rs : List (List Int)} {xs : List V} {ns : List Int} (h : LLs H0 H a rs) (hx : H a = some (.lst xs)) (s : Same H H') (fb : H b = none) (hb : H' b = some (.lst (ns.map V.int))) (h0 : H0 b = none) :
    LLs H0 (upd H' a (.lst (xs ++ [.ref b]))) a (rs ++ [ns]) := by
  obtain ⟨bs, e, r, n⟩ := h
  rw [hx] at e
  cases e
  have ne : b ≠ a := fun z => by rw [z, hx] at fb; cases fb
  have nb : ∀ c ∈ bs, c ≠ b := fun c hc z => by
    obtain ⟨⟨ms, e⟩, _⟩ := r.all c hc
    rw [z, fb] at e
    cases e
  have r1 : RoomsAt H0 H' a bs rs := Paired.mapP r fun _ _ ⟨p, q⟩ => ⟨s _ _ p, q⟩
  have r2 : RoomsAt H0 (upd H' a (.lst (bs.map V.ref ++ [.ref b]))) a bs rs := r1.updC fun c hc => (r.all c hc).2.2
  refine ⟨bs ++ [b], by rw [upd_same, List.map_append]; rfl, RoomsAt.snoc ((upd_ne ne).trans hb) h0 ne r2, ?_⟩
  refine List.nodup_append.mpr ⟨n, by simp, ?_⟩
  intro c hc d hd
  have : d = b := by simpa using hd
  rw [this]
  exact nb c hc
theorem rooms_app {H0 H : Hp} {a : Addr} : ∀ {bs cs : List Addr} {rs ss : List (List Int)}, RoomsAt H0 H a bs rs → RoomsAt H0 H a cs ss → RoomsAt H0 H a (bs ++ cs) (rs ++ ss)
  | _, _, _, _, .nil, h => h
  | _, _, _, _, .cons r t, h => .cons r (rooms_app t h)
noncomputable def OffR (H : Hp) (a c : Addr) : Prop := c ≠ a ∧ ∀ xs, H a = some (.lst xs) → V.ref c ∉ xs
noncomputable def Only (a : Addr) (H H' : Hp) : Prop := ∀ c, OffR H a c → ∀ o, H c = some o → H' c = some o
theorem atI_lastD {r : List Int} (h : r ≠ []) : atI (r.map V.int) (-1) = some (.int (r.getD (r.length - 1) 0)) := by
  obtain ⟨r0, m, rfl⟩ : ∃ r0 m, r = r0 ++ [m] := ⟨_, _, (List.dropLast_concat_getLast h).symm⟩
  rw [List.map_append]
  refine (atI_last (r0.map V.int) (V.int m)).trans ?_
  simp [List.getD_eq_getElem?_getD]
theorem atI_hd {r : List Int} (h : r ≠ []) : atI (r.map V.int) 0 = some (.int (hd r)) :=
  atI_int (i := 0) (by omega) (by have := List.length_pos_iff.mpr h; omega)
theorem sum_lens : ∀ ls : List (List Int), (ls.map fun r => (r.length : Int)).sum = (ls.flatten.length : Int)
  | [] => rfl
  | r :: ls => by
    rw [List.map_cons, List.sum_cons, sum_lens ls, List.flatten_cons, List.length_append]
    omega
theorem len_flat : ∀ ls : List (List Int), (∀ r ∈ ls, r ≠ []) → ls.length ≤ ls.flatten.length
  | [], _ => Nat.le_refl _
  | r :: ls, h => by
    have := len_flat ls fun s hs => h s (by simp [hs])
    have := List.length_pos_iff.mpr (h r (by simp))
    rw [List.flatten_cons, List.length_append, List.length_cons]
    omega
theorem len_one : ∀ (ls : List (List Int)) (r : List Int), r ∈ ls → r.length ≤ ls.flatten.length
  | [], r, h => by cases h
  | s :: ls, r, h => by
    rw [List.flatten_cons, List.length_append]
    rcases List.mem_cons.mp h with rfl | h
    · omega
    · have := len_one ls r h
      omega
theorem iota_len (k : Nat) : (iota k).length = k := by unfold iota; simp
theorem Rms.lens {i : Nat} {ls : List (List Int)} (h : Rms i ls) : ls.length ≤ i ∧ ∀ r ∈ ls, r.length ≤ i := by
  have e := h.flat.length_eq
  rw [iota_len] at e
  have := len_flat ls h.ne
  exact ⟨by omega, fun r hr => by have := len_one ls r hr; omega⟩
theorem rai_len (d : Int) (r : List Int) : (rai d r).length = r.length := List.length_map _
end Ck
set_option Elab.async false
set_option linter.all false
set_option maxRecDepth 100000
set_option maxHeartbeats 4000000
namespace Ck
open PySem L2
inductive Bt where
  | leaf
  | node (l r : Bt)
noncomputable def Bt.size : Bt → Nat
  | .leaf => 0
  | .node l r => l.size + r.size + 1
noncomputable def brk : Bt → List Nat
  | .leaf => []
  | .node l r => 40 :: (brk l ++ 41 :: brk r)
noncomputable def pre (n j : Nat) : Int := ((List.range j).map fun i => sh i * sh (n - 1 - i)).sum
end Ck
set_option Elab.async false
set_option linter.all false
set_option maxRecDepth 100000
set_option maxHeartbeats 4000000
namespace L2
open PySem PySem.Spec PyProof.Rows
section
variable {X : Cx}
variable {X : Cx} {o e : Expr} {es : List Expr} {to : TE} {t : TA} {name : Str} {apos cpos : Pos} {T id : String} {r : V → List V → Hp → VK → Prop}
end
section
variable {X : Cx}
end
end L2
namespace Ck
open PySem L2
theorem EqD.void {K : PySem.W.Frag} {H : Hp} {n : Nat} {a b : Addr} {xs : List V} (ne : a ≠ b) (ha : SqL K H a xs) (hb : SqL K H b []) : EqD K H (n + 1) (.ref a) (.ref b) (decide (xs = [])) := by
  cases xs with
  | nil => exact EqD.lstT ne ha hb rfl (fun j x y hx _ => by cases hx)
  | cons x xs => exact EqD.lstN ne ha hb (by simp)
noncomputable def sizes (ts : List Bt) : Nat := (ts.map Bt.size).sum
end Ck
set_option Elab.async false
set_option linter.all false
set_option maxRecDepth 100000
set_option maxHeartbeats 4000000
namespace Lg
open PySem PyProof.Rows
noncomputable def gallop' : Bool → Keyed → Array Keyed → Nat → Nat → Nat → StateT SortSt Sem (Option Nat) := sortPriv% PySem.Builtin.gallop
noncomputable def beyond' (left : Bool) (key : Keyed) (arr : Array Keyed) (base i : Nat) : StateT SortSt Sem (Option Bool) := elem' arr (base + i) >>= fun x => if left then lt' x key else lt' key x >>= fun r => pure (r.map (!·))
noncomputable def bey (left : Bool) (k a : Int) : Bool := if left then decide (a < k) else !decide (k < a)
section
variable {prog : Program} {w : World} {A : Around} {E : Value → Shared → Prop} {s : Shared}
theorem IntKeys.at {xs : Array Keyed} (h : IntKeys xs) {i : Nat} (hi : i < xs.size) : ∃ t q, xs[i]? = some (.int (K xs i) t, q) := by
  have hm : xs[i] ∈ xs.toList := by simp
  obtain ⟨n, t, hn⟩ := h _ hm
  refine ⟨t, xs[i].2, ?_⟩
  have e : xs[i]? = some xs[i] := getElem?_pos _ i hi
  have e2 : xs[i] = (.int n t, xs[i].2) := Prod.ext hn rfl
  unfold K
  rw [e, e2]
  rfl
theorem wpS_lt {st : SortSt} {a b : Int} {t u : Tok} {p q : Value} {Q : Option Bool → SortSt → Prop} (hk : kindOf st = oneType') (h : Q (some (decide (a < b))) st) : wpS (model prog w) A E s (lt' (.int a t, p) (.int b u, q)) Q st := by
  rw [lt'_eq]
  refine wpS_bind (wpS_get ?_)
  rw [hk, keyLt'_oneType]
  refine wpS_bind (wpS_lift (wpAny_attempt (oneLt_int ⟨rfl, ?_⟩)))
  exact wpS_pure h
theorem wpS_elem {st : SortSt} {xs : Array Keyed} {i : Nat} {p : Keyed} {Q : Keyed → SortSt → Prop} (e : xs[i]? = some p) (h : Q p st) : wpS (model prog w) A E s (elem' xs i) Q st := by
  rw [elem'_eq, e]
  exact wpS_pure h
theorem wpS_beyond {st : SortSt} {left : Bool} {k : Int} {t : Tok} {p : Value} {arr : Array Keyed} {base i : Nat} {Q : Option Bool → SortSt → Prop} (hk : kindOf st = oneType') (hI : IntKeys arr) (hi : base + i < arr.size)
    (h : Q (some (bey left k (K arr (base + i)))) st) : wpS (model prog w) A E s (beyond' left (.int k t, p) arr base i) Q st := by
  obtain ⟨t', q', e⟩ := IntKeys.at hI hi
  unfold beyond'
  refine wpS_bind (wpS_elem e ?_)
  cases left with
  | true => exact wpS_lt hk h
  | false => exact wpS_bind (wpS_lt hk (wpS_pure h))
theorem bey_mono {left : Bool} {k a b : Int} (h : a ≤ b) (hb : bey left k b = true) : bey left k a = true := by
  cases left with
  | true => have hb := of_decide_eq_true hb; exact decide_eq_true (Int.lt_of_le_of_lt h hb)
  | false =>
    have hb : (!decide (k < b)) = true := hb
    show (!decide (k < a)) = true
    simp at hb ⊢
    omega
theorem wpS_gallop {st : SortSt} {left : Bool} {k : Int} {t : Tok} {p : Value} {arr : Array Keyed} {base n hint : Nat} {Q : Option Nat → SortSt → Prop} (hk : kindOf st = oneType') (hI : IntKeys arr) (hz : base + n ≤ arr.size) (hh : hint < n)
    (hs : ∀ i j, i ≤ j → j < n → K arr (base + i) ≤ K arr (base + j))
    (h : ∀ m, m ≤ n → (∀ i, i < m → bey left k (K arr (base + i)) = true) → (∀ i, m ≤ i → i < n → bey left k (K arr (base + i)) = false) → Q (some m) st) :
    wpS (model prog w) A E s (gallop' left (.int k t, p) arr base n hint) Q st := by
  have dn : ∀ i j, i ≤ j → j < n → bey left k (K arr (base + j)) = true → bey left k (K arr (base + i)) = true := fun i j h1 h2 h3 => bey_mono (hs i j h1 h2) h3
  have up : ∀ i j, i ≤ j → j < n → bey left k (K arr (base + i)) = false → bey left k (K arr (base + j)) = false := fun i j h1 h2 h3 => by
    cases e : bey left k (K arr (base + j)) with
    | false => rfl
    | true => rw [dn i j h1 h2 e] at h3; cases h3
  have fin : ∀ lo hi : Nat, lo ≤ hi → hi ≤ n → (∀ i, i < lo → bey left k (K arr (base + i)) = true) → (∀ i, hi ≤ i → i < n → bey left k (K arr (base + i)) = false) →
      ∀ (f : (Option (Option Nat) × Nat × Nat) → StateT SortSt Sem (Option Nat)), (∀ m, f (none, m, m) = pure (some m)) →
      wpS (model prog w) A E s (forIn [0:n] ((none, lo, hi) : Option (Option Nat) × Nat × Nat) (fun _ c => do
        if c.2.1 ≥ c.2.2 then pure (ForInStep.done (none, c.2.1, c.2.2)) else do
          let x ← beyond' left (.int k t, p) arr base (c.2.1 + (c.2.2 - c.2.1) / 2)
          match x with
          | some more => if more = true then pure (ForInStep.yield (none, c.2.1 + (c.2.2 - c.2.1) / 2 + 1, c.2.2)) else pure (ForInStep.yield (none, c.2.1, c.2.1 + (c.2.2 - c.2.1) / 2))
          | _ => pure (ForInStep.done (some none, c.2.1, c.2.2))) >>= f) Q st := by
    intro lo hi hlh hhn hlo hhi f hf
    refine wpS_bind (wpS_mono (wpS_forRange (I := fun x c st' => st' = st ∧ ∃ l r, c = (none, l, r) ∧ l ≤ r ∧ r ≤ n ∧ r - l ≤ n - x ∧ (∀ i, i < l → bey left k (K arr (base + i)) = true) ∧ (∀ i, r ≤ i → i < n → bey left k (K arr (base + i)) = false))
      (Q := fun c st' => st' = st ∧ ∃ m, c = (none, m, m) ∧ m ≤ n ∧ (∀ i, i < m → bey left k (K arr (base + i)) = true) ∧ (∀ i, m ≤ i → i < n → bey left k (K arr (base + i)) = false)) ?step ?fin ⟨rfl, lo, hi, rfl, hlh, hhn, by omega, hlo, hhi⟩) ?post)
    case post =>
      rintro c st' ⟨rfl, m, rfl, hm, a1, a2⟩
      rw [hf]
      exact wpS_pure (h m hm a1 a2)
    case fin =>
      rintro c st' ⟨rfl, l, r, rfl, h1, h2, h3, a1, a2⟩
      have : l = r := by omega
      subst this
      exact ⟨rfl, l, rfl, h2, a1, a2⟩
    case step =>
      rintro x c st' _ hx ⟨rfl, l, r, rfl, h1, h2, h3, a1, a2⟩
      dsimp only
      by_cases hge : l ≥ r
      · rw [if_pos hge]
        have : l = r := by omega
        subst this
        exact wpS_pure ⟨rfl, l, rfl, h2, a1, a2⟩
      · rw [if_neg hge]
        refine wpS_bind (wpS_beyond hk hI (by omega) ?_)
        cases e : bey left k (K arr (base + (l + (r - l) / 2))) with
        | true =>
          dsimp only
          rw [if_pos rfl]
          exact wpS_pure ⟨rfl, _, _, rfl, by omega, h2, by omega, fun i hi => dn i _ (by omega) (by omega) e, a2⟩
        | false =>
          dsimp only
          rw [if_neg (by decide)]
          exact wpS_pure ⟨rfl, _, _, rfl, by omega, by omega, by omega, a1, fun i h4 h5 => up _ i h4 h5 e⟩
  unfold gallop'
  change wpS _ _ _ _ (bind _ _) _ _
  dsimp only
  refine wpS_bind (wpS_beyond hk hI (by omega) ?_)
  cases e : bey left k (K arr (base + hint)) with
  | true =>
    dsimp only
    rw [if_pos rfl]
    refine wpS_bind (wpS_mono (wpS_forRange (I := fun x c st' => st' = st ∧ ∃ l o, c = (none, l, o) ∧ l < o ∧ l < n - hint ∧ x + 1 ≤ o ∧ bey left k (K arr (base + (hint + l))) = true)
      (Q := fun c st' => st' = st ∧ ∃ l o, c = (none, l, o) ∧ l < o ∧ l < n - hint ∧ bey left k (K arr (base + (hint + l))) = true ∧ (n - hint ≤ o ∨ (o < n - hint ∧ bey left k (K arr (base + (hint + o))) = false))) ?step1 ?fin1 ⟨rfl, 0, 1, rfl, by omega, by omega, by omega, e⟩) ?post1)
    case post1 =>
      rintro c st' ⟨rfl, l, o, rfl, h1, h2, h3, h4⟩
      dsimp only
      refine fin (hint + l + 1) (hint + min o (n - hint)) (by omega) (by omega) (fun i hi => dn i (hint + l) (by omega) (by omega) h3) (fun i h5 h6 => ?_) _ (fun m => rfl)
      rcases h4 with h4 | ⟨h4, h7⟩
      · omega
      · exact up (hint + o) i (by omega) h6 h7
    case fin1 =>
      rintro c st' ⟨rfl, l, o, rfl, h1, h2, h3, h4⟩
      exact ⟨rfl, l, o, rfl, h1, h2, h4, .inl (by omega)⟩
    case step1 =>
      rintro x c st' _ hx ⟨rfl, l, o, rfl, h1, h2, h3, h4⟩
      dsimp only
      by_cases hge : o ≥ n - hint
      · rw [if_pos hge]
        exact wpS_pure ⟨rfl, l, o, rfl, h1, h2, h4, .inl hge⟩
      · rw [if_neg hge]
        refine wpS_bind (wpS_beyond hk hI (by omega) ?_)
        cases e2 : bey left k (K arr (base + (hint + o))) with
        | true =>
          dsimp only
          rw [if_neg (by decide)]
          exact wpS_pure ⟨rfl, o, 2 * o + 1, rfl, by omega, by omega, by omega, e2⟩
        | false =>
          dsimp only
          rw [if_pos (by decide)]
          exact wpS_pure ⟨rfl, l, o, rfl, h1, h2, h4, .inr ⟨by omega, e2⟩⟩
  | false =>
    dsimp only
    rw [if_neg (by decide)]
    refine wpS_bind (wpS_mono (wpS_forRange (I := fun x c st' => st' = st ∧ ∃ l o, c = (none, l, o) ∧ l < o ∧ l ≤ hint ∧ x + 1 ≤ o ∧ bey left k (K arr (base + (hint - l))) = false)
      (Q := fun c st' => st' = st ∧ ∃ l o, c = (none, l, o) ∧ l < o ∧ l ≤ hint ∧ bey left k (K arr (base + (hint - l))) = false ∧ (hint + 1 ≤ o ∨ (o ≤ hint ∧ bey left k (K arr (base + (hint - o))) = true))) ?step2 ?fin2 ⟨rfl, 0, 1, rfl, by omega, by omega, by omega, e⟩) ?post2)
    case post2 =>
      rintro c st' ⟨rfl, l, o, rfl, h1, h2, h3, h4⟩
      dsimp only
      refine fin (hint + 1 - min o (hint + 1)) (hint - l) (by omega) (by omega) (fun i hi => ?_) (fun i h5 h6 => up (hint - l) i h5 h6 h3) _ (fun m => rfl)
      rcases h4 with h4 | ⟨h4, h7⟩
      · omega
      · exact dn i (hint - o) (by omega) (by omega) h7
    case fin2 =>
      rintro c st' ⟨rfl, l, o, rfl, h1, h2, h3, h4⟩
      exact ⟨rfl, l, o, rfl, h1, h2, h4, .inl (by omega)⟩
    case step2 =>
      rintro x c st' _ hx ⟨rfl, l, o, rfl, h1, h2, h3, h4⟩
      dsimp only
      by_cases hge : o ≥ hint + 1
      · rw [if_pos hge]
        exact wpS_pure ⟨rfl, l, o, rfl, h1, h2, h4, .inl hge⟩
      · rw [if_neg hge]
        refine wpS_bind (wpS_beyond hk hI (by omega) ?_)
        cases e2 : bey left k (K arr (base + (hint - o))) with
        | true =>
          dsimp only
          rw [if_pos rfl]
          exact wpS_pure ⟨rfl, l, o, rfl, h1, h2, h4, .inr ⟨by omega, e2⟩⟩
        | false =>
          dsimp only
          rw [if_neg (by decide)]
          exact wpS_pure ⟨rfl, o, 2 * o + 1, rfl, by omega, by omega, by omega, e2⟩
end
noncomputable abbrev key (p : Keyed) : Int := numOf p.1
theorem K_at {xs : Array Keyed} {i : Nat} {p : Keyed} (h : xs[i]? = some p) : K xs i = key p := by unfold K; rw [h]
noncomputable def Srt (xs : Array Keyed) : Prop := ∀ i j, i ≤ j → j < xs.size → K xs i ≤ K xs j
structure Mg (a b out : Array Keyed) (ia ib : Nat) : Prop where
  ha : ia ≤ a.size
  hb : ib ≤ b.size
  perm : (out.toList ++ (a.toList.drop ia ++ b.toList.drop ib)).Perm (a.toList ++ b.toList)
  srt : (out.toList.map key).Pairwise (· ≤ ·)
  lea : ∀ x ∈ out.toList, ∀ i, ia ≤ i → i < a.size → key x ≤ K a i
  leb : ∀ x ∈ out.toList, ∀ j, ib ≤ j → j < b.size → key x ≤ K b j
noncomputable def Fin (a b R : Array Keyed) : Prop := R.toList.Perm (a.toList ++ b.toList) ∧ (R.toList.map key).Pairwise (· ≤ ·)
variable {a b out : Array Keyed} {ia ib : Nat}
theorem drop_at {xs : Array Keyed} {i : Nat} {p : Keyed} (h : xs[i]? = some p) : xs.toList.drop i = p :: xs.toList.drop (i + 1) := by
  have hi : i < xs.size := by
    rcases Nat.lt_or_ge i xs.size with z | z
    · exact z
    · rw [Array.getElem?_eq_none z] at h; cases h
  have hi' : i < xs.toList.length := by simpa using hi
  rw [List.drop_eq_getElem_cons hi']
  congr 1
  rw [Array.getElem?_eq_getElem hi] at h
  simpa using h
theorem Mg.pushA (m : Mg a b out ia ib) (sa : Srt a) (sb : Srt b) {p : Keyed} (e : a[ia]? = some p) (hi : ia < a.size) (le : ib < b.size → K a ia ≤ K b ib) : Mg a b (out.push p) (ia + 1) ib := by
  have kp := K_at e
  refine ⟨hi, m.hb, ?_, ?_, ?_, ?_⟩
  · have h := m.perm
    rw [drop_at e] at h
    rw [Array.toList_push, List.append_assoc]
    exact h
  · rw [Array.toList_push, List.map_append, List.pairwise_append]
    refine ⟨m.srt, List.pairwise_singleton _ _, fun x hx y hy => ?_⟩
    obtain ⟨z, hz, rfl⟩ := List.mem_map.mp hx
    have hy : y = key p := by simpa using hy
    rw [hy, ← kp]
    exact m.lea z hz ia (Nat.le_refl _) hi
  · intro x hx i h1 h2
    rw [Array.toList_push, List.mem_append] at hx
    rcases hx with hx | hx
    · exact m.lea x hx i (by omega) h2
    · have : x = p := by simpa using hx
      rw [this, ← kp]
      exact sa ia i (by omega) h2
  · intro x hx j h1 h2
    rw [Array.toList_push, List.mem_append] at hx
    rcases hx with hx | hx
    · exact m.leb x hx j h1 h2
    · have : x = p := by simpa using hx
      rw [this, ← kp]
      exact Int.le_trans (le (by omega)) (sb ib j h1 h2)
theorem perm_turn (o : List Keyed) (x : Keyed) (r u : List Keyed) : (o ++ [x] ++ (r ++ u)).Perm (o ++ (r ++ x :: u)) := by
  rw [List.append_assoc]
  refine List.Perm.append_left o ?_
  show (x :: (r ++ u)).Perm (r ++ x :: u)
  exact List.perm_middle.symm
theorem Mg.pushB (m : Mg a b out ia ib) (sa : Srt a) (sb : Srt b) {p : Keyed} (e : b[ib]? = some p) (hi : ib < b.size) (le : ia < a.size → K b ib ≤ K a ia) : Mg a b (out.push p) ia (ib + 1) := by
  have kp := K_at e
  refine ⟨m.ha, hi, ?_, ?_, ?_, ?_⟩
  · have h := m.perm
    rw [drop_at e] at h
    rw [Array.toList_push]
    exact (perm_turn _ _ _ _).trans h
  · rw [Array.toList_push, List.map_append, List.pairwise_append]
    refine ⟨m.srt, List.pairwise_singleton _ _, fun x hx y hy => ?_⟩
    obtain ⟨z, hz, rfl⟩ := List.mem_map.mp hx
    have hy : y = key p := by simpa using hy
    rw [hy, ← kp]
    exact m.leb z hz ib (Nat.le_refl _) hi
  · intro x hx i h1 h2
    rw [Array.toList_push, List.mem_append] at hx
    rcases hx with hx | hx
    · exact m.lea x hx i h1 h2
    · have : x = p := by simpa using hx
      rw [this, ← kp]
      exact Int.le_trans (le (by omega)) (sa ia i h1 h2)
  · intro x hx j h1 h2
    rw [Array.toList_push, List.mem_append] at hx
    rcases hx with hx | hx
    · exact m.leb x hx j (by omega) h2
    · have : x = p := by simpa using hx
      rw [this, ← kp]
      exact sb ib j (by omega) h2
theorem ext_push {xs : Array Keyed} {i k : Nat} {p : Keyed} (e : xs[i + k]? = some p) : xs.extract i (i + k + 1) = (xs.extract i (i + k)).push p := by
  have hi : i + k < xs.size := by
    rcases Nat.lt_or_ge (i + k) xs.size with z | z
    · exact z
    · rw [Array.getElem?_eq_none z] at e; cases e
  rw [Array.getElem?_eq_getElem hi] at e
  apply Array.ext'
  rw [Array.toList_push, Array.toList_extract, Array.toList_extract]
  simp only [List.extract_eq_take_drop]
  rw [show i + k + 1 - i = k + 1 by omega, show i + k - i = k by omega]
  have hl : k < (xs.toList.drop i).length := by simp; omega
  rw [List.take_succ_eq_append_getElem hl]
  congr 2
  simp
  simpa using e
theorem Mg.takeA (m : Mg a b out ia ib) (sa : Srt a) (sb : Srt b) : ∀ k, ia + k ≤ a.size → (∀ i, i < k → ib < b.size → K a (ia + i) ≤ K b ib) → Mg a b (out ++ a.extract ia (ia + k)) (ia + k) ib
  | 0, _, _ => by
    have e : a.extract ia (ia + 0) = #[] := by simp; omega
    rw [e, Array.append_empty]
    exact m
  | k + 1, h1, h2 => by
    have ih := Mg.takeA m sa sb k (by omega) (fun i hi => h2 i (by omega))
    have e : a[ia + k]? = some a[ia + k] := Array.getElem?_eq_getElem (by omega)
    have e2 := ext_push e
    rw [show ia + (k + 1) = ia + k + 1 by omega, e2, Array.append_push]
    exact ih.pushA sa sb e (by omega) (h2 k (by omega))
theorem Mg.takeB (m : Mg a b out ia ib) (sa : Srt a) (sb : Srt b) : ∀ k, ib + k ≤ b.size → (∀ i, i < k → ia < a.size → K b (ib + i) ≤ K a ia) → Mg a b (out ++ b.extract ib (ib + k)) ia (ib + k)
  | 0, _, _ => by
    have e : b.extract ib (ib + 0) = #[] := by simp; omega
    rw [e, Array.append_empty]
    exact m
  | k + 1, h1, h2 => by
    have ih := Mg.takeB m sa sb k (by omega) (fun i hi => h2 i (by omega))
    have e : b[ib + k]? = some b[ib + k] := Array.getElem?_eq_getElem (by omega)
    have e2 := ext_push e
    rw [show ib + (k + 1) = ib + k + 1 by omega, e2, Array.append_push]
    exact ih.pushB sa sb e (by omega) (h2 k (by omega))
theorem Mg.fin (m : Mg a b out a.size b.size) : Fin a b out := by
  refine ⟨?_, m.srt⟩
  have h := m.perm
  rw [List.drop_eq_nil_of_le (by simp), List.drop_eq_nil_of_le (by simp), List.append_nil, List.append_nil] at h
  exact h
theorem Mg.doneB (m : Mg a b out ia ib) (sa : Srt a) (sb : Srt b) (h : ib = b.size) : Fin a b (out ++ a.extract ia a.size ++ b.extract ib b.size) := by
  subst h
  have h1 := m.takeA sa sb (a.size - ia) (by have := m.ha; omega) (fun i _ z => by omega)
  rw [show ia + (a.size - ia) = a.size by have := m.ha; omega] at h1
  have e : b.extract b.size b.size = #[] := by simp
  rw [e, Array.append_empty]
  exact h1.fin
theorem Mg.doneA (m : Mg a b out ia ib) (sa : Srt a) (sb : Srt b) (h : ia = a.size) : Fin a b (out ++ a.extract ia a.size ++ b.extract ib b.size) := by
  subst h
  have e : a.extract a.size a.size = #[] := by simp
  rw [e, Array.append_empty]
  have h1 := m.takeB sa sb (b.size - ib) (by have := m.hb; omega) (fun i _ z => by omega)
  rw [show ib + (b.size - ib) = b.size by have := m.hb; omega] at h1
  exact h1.fin
theorem Mg.last (m : Mg a b out ia ib) (sa : Srt a) (sb : Srt b) (h : ia + 1 = a.size) (top : ∀ j, j < b.size → K b j ≤ K a ia) : Fin a b (out ++ b.extract ib b.size ++ a.extract ia a.size) := by
  have h1 := m.takeB sa sb (b.size - ib) (by have := m.hb; omega) (fun i _ z => top _ (by omega))
  rw [show ib + (b.size - ib) = b.size by have := m.hb; omega] at h1
  have h2 := h1.takeA sa sb (a.size - ia) (by omega) (fun i _ z => by omega)
  rw [show ia + (a.size - ia) = a.size by omega] at h2
  exact h2.fin
section
variable {prog : Program} {w : World} {A : Around} {E : Value → Shared → Prop} {s : Shared}
noncomputable def setG (st : SortSt) (g : Nat) : SortSt := SortSt.mk' (kindOf st) (arrOf st) (pendingOf st) g (failedOf st)
noncomputable def setMinGallop' : Nat → StateT SortSt Sem Unit := sortPriv% PySem.Builtin.setMinGallop
theorem setMinGallop'_eq (g : Nat) : setMinGallop' g = modify fun s => setG s g := rfl
noncomputable def mergeLo' : Array Keyed → Array Keyed → StateT SortSt Sem (Array Keyed) := sortPriv% PySem.Builtin.mergeLo
theorem wpS_setG {st : SortSt} {g : Nat} {Q : Unit → SortSt → Prop} (h : Q () (setG st g)) : wpS (model prog w) A E s (setMinGallop' g) Q st := by
  rw [setMinGallop'_eq]
  exact wpS_modify h
theorem wpS_mergeLo {st : SortSt} {a b : Array Keyed} {Q : Array Keyed → SortSt → Prop} (hk : kindOf st = oneType') (hA : IntKeys a) (hB : IntKeys b) (sa : Srt a) (sb : Srt b) (na : 1 ≤ a.size) (nb : 1 ≤ b.size) (first : K b 0 ≤ K a 0) (top : ∀ j, j < b.size → K b j ≤ K a (a.size - 1))
    (h : ∀ R g, Fin a b R → Q R (setG st g)) : wpS (model prog w) A E s (mergeLo' a b) Q st := by
  have top' : ∀ i, i + 1 = a.size → ∀ j, j < b.size → K b j ≤ K a i := fun i hi j hj => by
    have := top j hj
    rw [show a.size - 1 = i by omega] at this
    exact this
  have m0 : Mg a b #[] 0 0 := ⟨Nat.zero_le _, Nat.zero_le _, List.Perm.refl _, .nil, (fun x hx => by simp at hx), (fun x hx => by simp at hx)⟩
  obtain ⟨t0, q0, e0⟩ := IntKeys.at hB (show 0 < b.size by omega)
  have m1 := m0.pushB sa sb e0 (by omega) (fun _ => first)
  unfold mergeLo'
  change wpS _ _ _ _ (bind _ _) _ _
  dsimp only
  refine wpS_bind (wpS_lift (wpAny_rule ⟨rfl, ?_⟩))
  refine wpS_bind (wpS_elem e0 ?_)
  by_cases hb1 : 1 = b.size
  · rw [if_pos (by simpa using hb1)]
    exact wpS_pure (h _ (gallopOf st) (m1.doneB sa sb hb1))
  rw [if_neg (by simpa using hb1)]
  by_cases ha1 : 0 + 1 = a.size
  · rw [if_pos (by simpa using ha1)]
    exact wpS_pure (h _ (gallopOf st) (m1.last sa sb ha1 (top' _ ha1)))
  rw [if_neg (by simpa using ha1)]
  refine wpS_bind (wpS_get ?_)
  refine wpS_bind (wpS_mono (wpS_forRange (I := fun x c st' => ∃ g out ia ib mg, st' = setG st g ∧ c = (none, out, ia, ib, mg) ∧ Mg a b out ia ib ∧ ia + 1 < a.size ∧ ib < b.size ∧ x + 1 ≤ ia + ib)
    (Q := fun c st' => ∃ R g r, c = (some R, r) ∧ st' = setG st g ∧ Fin a b R) ?step ?fin ⟨gallopOf st, _, 0, 1, _, rfl, rfl, m1, by omega, by omega, by omega⟩) ?post)
  case post =>
    rintro c st' ⟨R, g, r, rfl, rfl, f⟩
    exact wpS_pure (h R g f)
  case fin =>
    rintro c st' ⟨g, out, ia, ib, mg, rfl, rfl, m, h1, h2, h3⟩
    omega
  case step =>
    rintro x c st' _ hx ⟨g, out, ia, ib, mg, rfl, rfl, m, h1, h2, h3⟩
    dsimp only
    refine wpS_bind (wpS_mono (wpS_forRange (I := fun y c st' => st' = setG st g ∧ ∃ out ia ib ac bc, c = (none, out, ia, ib, ac, bc) ∧ Mg a b out ia ib ∧ ia + 1 < a.size ∧ ib < b.size ∧ x + 1 + y ≤ ia + ib)
      (Q := fun c st' => st' = setG st g ∧ ((∃ R r, c = (some R, r) ∧ Fin a b R) ∨ ∃ out ia ib ac bc, c = (none, out, ia, ib, ac, bc) ∧ Mg a b out ia ib ∧ ia + 1 < a.size ∧ ib < b.size ∧ x + 2 ≤ ia + ib)) ?st1 ?fin1 ⟨rfl, out, ia, ib, 0, 0, rfl, m, h1, h2, by omega⟩) ?post1)
    case fin1 =>
      rintro c st' ⟨rfl, out, ia, ib, ac, bc, rfl, m, h1, h2, h3⟩
      exact ⟨rfl, .inr ⟨out, ia, ib, ac, bc, rfl, m, h1, h2, by omega⟩⟩
    case st1 =>
      rintro y c st' _ hy ⟨rfl, out, ia, ib, ac, bc, rfl, m, h1, h2, h3⟩
      dsimp only
      obtain ⟨tb, qb, eb⟩ := IntKeys.at hB h2
      obtain ⟨ta, qa, ea⟩ := IntKeys.at hA (show ia < a.size by omega)
      refine wpS_bind (wpS_elem eb ?_)
      refine wpS_bind (wpS_elem ea ?_)
      refine wpS_bind (wpS_lt (st := setG st g) hk ?_)
      by_cases hw : K b ib < K a ia
      · simp only [hw, decide_true, if_true]
        have m2 := m.pushB sa sb eb h2 (fun _ => Int.le_of_lt hw)
        refine wpS_bind (wpS_elem eb ?_)
        by_cases h4 : ib + 1 = b.size
        · rw [if_pos (by simpa using h4)]
          exact wpS_pure ⟨rfl, .inl ⟨_, _, rfl, m2.doneB sa sb h4⟩⟩
        · rw [if_neg (by simpa using h4)]
          split
          · exact wpS_pure ⟨rfl, .inr ⟨_, _, _, _, _, rfl, m2, by omega, by omega, by omega⟩⟩
          · exact wpS_pure ⟨rfl, _, _, _, _, _, rfl, m2, by omega, by omega, by omega⟩
      · simp only [hw, decide_false, Bool.false_eq_true, if_false]
        have m2 := m.pushA sa sb ea (by omega) (fun _ => Int.not_lt.mp hw)
        refine wpS_bind (wpS_elem ea ?_)
        by_cases h4 : ia + 1 + 1 = a.size
        · rw [if_pos (by simpa using h4)]
          exact wpS_pure ⟨rfl, .inl ⟨_, _, rfl, m2.last sa sb h4 (top' _ h4)⟩⟩
        · rw [if_neg (by simpa using h4)]
          split
          · exact wpS_pure ⟨rfl, .inr ⟨_, _, _, _, _, rfl, m2, by omega, by omega, by omega⟩⟩
          · exact wpS_pure ⟨rfl, _, _, _, _, _, rfl, m2, by omega, by omega, by omega⟩
    case post1 =>
      rintro c st' ⟨rfl, ⟨R, r, rfl, f⟩ | ⟨out, ia, ib, ac, bc, rfl, m, h1, h2, h3⟩⟩
      · exact wpS_pure ⟨R, g, _, rfl, rfl, f⟩
      dsimp only
      refine wpS_bind (wpS_lift (wpAny_rule ⟨rfl, ?_⟩))
      refine wpS_bind (wpS_mono (wpS_forRange (I := fun y c st' => ∃ g out ia ib mg ac bc, st' = setG st g ∧ c = (none, out, ia, ib, mg, ac, bc) ∧ Mg a b out ia ib ∧ ia + 1 < a.size ∧ ib < b.size ∧ x + 2 ≤ ia + ib)
        (Q := fun c st' => (∃ R g r, c = (some R, r) ∧ st' = setG st g ∧ Fin a b R) ∨ ∃ g out ia ib mg ac bc, st' = setG st g ∧ c = (none, out, ia, ib, mg, ac, bc) ∧ Mg a b out ia ib ∧ ia + 1 < a.size ∧ ib < b.size ∧ x + 2 ≤ ia + ib) ?st2 ?fin2 ⟨g, out, ia, ib, _, ac, bc, rfl, rfl, m, h1, h2, h3⟩) ?post2)
      case fin2 =>
        rintro c st' ⟨g, out, ia, ib, mg, ac, bc, rfl, rfl, m, h1, h2, h3⟩
        exact .inr ⟨g, out, ia, ib, mg, ac, bc, rfl, rfl, m, h1, h2, h3⟩
      case post2 =>
        rintro c st' (⟨R, g, r, rfl, rfl, f⟩ | ⟨g, out, ia, ib, mg, ac, bc, rfl, rfl, m, h1, h2, h3⟩)
        · exact wpS_pure ⟨R, g, _, rfl, rfl, f⟩
        · dsimp only
          refine wpS_bind (wpS_setG ?_)
          exact wpS_pure ⟨mg + 1, out, ia, ib, mg + 1, rfl, rfl, m, h1, h2, by omega⟩
      case st2 =>
        rintro y c st' _ hy ⟨g, out, ia, ib, mg, ac, bc, rfl, rfl, m, h1, hib, h3⟩
        dsimp only
        by_cases hmg : mg > 1
        · rw [if_pos hmg]
          obtain ⟨tb, qb, eb⟩ := IntKeys.at hB hib
          refine wpS_bind (wpS_setG ?_)
          show wpS _ _ _ _ _ _ (setG st (mg - 1))
          obtain ⟨gg, egg⟩ : ∃ gg, (mg - 1) = gg := ⟨_, rfl⟩
          rw [egg]
          refine wpS_bind (wpS_elem eb ?_)
          refine wpS_bind (wpS_gallop (st := setG st gg) hk hA (by omega) (by omega) (fun i j h6 h7 => sa _ _ (by omega) (by omega)) fun k kn low high => ?_)
          dsimp only
          by_cases hk1 : k > 0
          · rw [if_pos hk1]
            have m1 := m.takeA sa sb k (by omega) (fun i hi _ => by have := low i hi; unfold bey at this; simp at this; omega)
            by_cases h2 : ia + k + 1 = a.size
            · rw [if_pos (by simpa using h2)]
              exact wpS_pure (.inl ⟨_, _, _, rfl, rfl, m1.last sa sb h2 (top' _ h2)⟩)
            · rw [if_neg (by simpa using h2)]
              by_cases h3 : ia + k = a.size
              · rw [if_pos (by simpa using h3)]
                exact wpS_pure (.inl ⟨_, _, _, rfl, rfl, m1.doneA sa sb h3⟩)
              · rw [if_neg (by simpa using h3)]
                have leb : ia + k < a.size → K b ib ≤ K a (ia + k) := fun z => by have := high k (Nat.le_refl _) (by omega); unfold bey at this; simp at this; omega
                have m2 := m1.pushB sa sb eb hib leb
                obtain ⟨ta, qa, ea2⟩ := IntKeys.at hA (show ia + k < a.size by omega)
                refine wpS_bind (wpS_elem eb ?_)
                by_cases h4 : ib + 1 = b.size
                · rw [if_pos (by simpa using h4)]
                  exact wpS_pure (.inl ⟨_, _, _, rfl, rfl, m2.doneB sa sb h4⟩)
                · rw [if_neg (by simpa using h4)]
                  refine wpS_bind (wpS_elem ea2 ?_)
                  refine wpS_bind (wpS_gallop (st := setG st gg) hk hB (by omega) (by omega) (fun i j h6 h7 => sb _ _ (by omega) (by omega)) fun k2 k2n low2 high2 => ?_)
                  dsimp only
                  by_cases hk2 : k2 > 0
                  · rw [if_pos hk2]
                    have m2' := m2.takeB sa sb k2 (by omega) (fun i hi _ => Int.le_of_lt (of_decide_eq_true (low2 i hi)))
                    by_cases h8 : ib + 1 + k2 = b.size
                    · rw [if_pos (by simpa using h8)]
                      exact wpS_pure (.inl ⟨_, _, _, rfl, rfl, m2'.doneB sa sb h8⟩)
                    · rw [if_neg (by simpa using h8)]
                      have le3 : ib + 1 + k2 < b.size → K a (ia + k) ≤ K b (ib + 1 + k2) := fun z => Int.not_lt.mp (of_decide_eq_false (high2 k2 (Nat.le_refl _) (by omega)))
                      have m3 := m2'.pushA sa sb ea2 (by omega) le3
                      refine wpS_bind (wpS_elem ea2 ?_)
                      by_cases h5 : ia + k + 1 + 1 = a.size
                      · rw [if_pos (by simpa using h5)]
                        exact wpS_pure (.inl ⟨_, _, _, rfl, rfl, m3.last sa sb h5 (top' _ h5)⟩)
                      · rw [if_neg (by simpa using h5)]
                        split
                        · exact wpS_pure (.inr ⟨_, _, _, _, _, _, _, rfl, rfl, m3, by omega, by omega, by omega⟩)
                        · exact wpS_pure ⟨_, _, _, _, _, _, _, rfl, rfl, m3, by omega, by omega, by omega⟩
                  · rw [if_neg hk2]
                    have k20 : k2 = 0 := by omega
                    subst k20
                    have le3 : ib + 1 < b.size → K a (ia + k) ≤ K b (ib + 1) := fun z => Int.not_lt.mp (of_decide_eq_false (high2 0 (Nat.le_refl _) (by omega)))
                    have m3 := m2.pushA sa sb ea2 (by omega) le3
                    refine wpS_bind (wpS_elem ea2 ?_)
                    by_cases h5 : ia + k + 1 + 1 = a.size
                    · rw [if_pos (by simpa using h5)]
                      exact wpS_pure (.inl ⟨_, _, _, rfl, rfl, m3.last sa sb h5 (top' _ h5)⟩)
                    · rw [if_neg (by simpa using h5)]
                      split
                      · exact wpS_pure (.inr ⟨_, _, _, _, _, _, _, rfl, rfl, m3, by omega, by omega, by omega⟩)
                      · exact wpS_pure ⟨_, _, _, _, _, _, _, rfl, rfl, m3, by omega, by omega, by omega⟩
          · rw [if_neg hk1]
            have k0 : k = 0 := by omega
            subst k0
            have leb : ia < a.size → K b ib ≤ K a (ia) := fun z => by have := high 0 (Nat.le_refl _) (by omega); unfold bey at this; simp at this; omega
            have m2 := m.pushB sa sb eb hib leb
            obtain ⟨ta, qa, ea2⟩ := IntKeys.at hA (show ia < a.size by omega)
            refine wpS_bind (wpS_elem eb ?_)
            by_cases h4 : ib + 1 = b.size
            · rw [if_pos (by simpa using h4)]
              exact wpS_pure (.inl ⟨_, _, _, rfl, rfl, m2.doneB sa sb h4⟩)
            · rw [if_neg (by simpa using h4)]
              refine wpS_bind (wpS_elem ea2 ?_)
              refine wpS_bind (wpS_gallop (st := setG st gg) hk hB (by omega) (by omega) (fun i j h6 h7 => sb _ _ (by omega) (by omega)) fun k2 k2n low2 high2 => ?_)
              dsimp only
              by_cases hk2 : k2 > 0
              · rw [if_pos hk2]
                have m2' := m2.takeB sa sb k2 (by omega) (fun i hi _ => Int.le_of_lt (of_decide_eq_true (low2 i hi)))
                by_cases h8 : ib + 1 + k2 = b.size
                · rw [if_pos (by simpa using h8)]
                  exact wpS_pure (.inl ⟨_, _, _, rfl, rfl, m2'.doneB sa sb h8⟩)
                · rw [if_neg (by simpa using h8)]
                  have le3 : ib + 1 + k2 < b.size → K a ia ≤ K b (ib + 1 + k2) := fun z => Int.not_lt.mp (of_decide_eq_false (high2 k2 (Nat.le_refl _) (by omega)))
                  have m3 := m2'.pushA sa sb ea2 (by omega) le3
                  refine wpS_bind (wpS_elem ea2 ?_)
                  by_cases h5 : ia + 1 + 1 = a.size
                  · rw [if_pos (by simpa using h5)]
                    exact wpS_pure (.inl ⟨_, _, _, rfl, rfl, m3.last sa sb h5 (top' _ h5)⟩)
                  · rw [if_neg (by simpa using h5)]
                    split
                    · exact wpS_pure (.inr ⟨_, _, _, _, _, _, _, rfl, rfl, m3, by omega, by omega, by omega⟩)
                    · exact wpS_pure ⟨_, _, _, _, _, _, _, rfl, rfl, m3, by omega, by omega, by omega⟩
              · rw [if_neg hk2]
                have k20 : k2 = 0 := by omega
                subst k20
                have le3 : ib + 1 < b.size → K a ia ≤ K b (ib + 1) := fun z => Int.not_lt.mp (of_decide_eq_false (high2 0 (Nat.le_refl _) (by omega)))
                have m3 := m2.pushA sa sb ea2 (by omega) le3
                refine wpS_bind (wpS_elem ea2 ?_)
                by_cases h5 : ia + 1 + 1 = a.size
                · rw [if_pos (by simpa using h5)]
                  exact wpS_pure (.inl ⟨_, _, _, rfl, rfl, m3.last sa sb h5 (top' _ h5)⟩)
                · rw [if_neg (by simpa using h5)]
                  split
                  · exact wpS_pure (.inr ⟨_, _, _, _, _, _, _, rfl, rfl, m3, by omega, by omega, by omega⟩)
                  · exact wpS_pure ⟨_, _, _, _, _, _, _, rfl, rfl, m3, by omega, by omega, by omega⟩
        · rw [if_neg hmg]
          obtain ⟨tb, qb, eb⟩ := IntKeys.at hB hib
          refine wpS_bind (wpS_setG ?_)
          show wpS _ _ _ _ _ _ (setG st mg)
          obtain ⟨gg, egg⟩ : ∃ gg, mg = gg := ⟨_, rfl⟩
          rw [egg]
          refine wpS_bind (wpS_elem eb ?_)
          refine wpS_bind (wpS_gallop (st := setG st gg) hk hA (by omega) (by omega) (fun i j h6 h7 => sa _ _ (by omega) (by omega)) fun k kn low high => ?_)
          dsimp only
          by_cases hk1 : k > 0
          · rw [if_pos hk1]
            have m1 := m.takeA sa sb k (by omega) (fun i hi _ => by have := low i hi; unfold bey at this; simp at this; omega)
            by_cases h2 : ia + k + 1 = a.size
            · rw [if_pos (by simpa using h2)]
              exact wpS_pure (.inl ⟨_, _, _, rfl, rfl, m1.last sa sb h2 (top' _ h2)⟩)
            · rw [if_neg (by simpa using h2)]
              by_cases h3 : ia + k = a.size
              · rw [if_pos (by simpa using h3)]
                exact wpS_pure (.inl ⟨_, _, _, rfl, rfl, m1.doneA sa sb h3⟩)
              · rw [if_neg (by simpa using h3)]
                have leb : ia + k < a.size → K b ib ≤ K a (ia + k) := fun z => by have := high k (Nat.le_refl _) (by omega); unfold bey at this; simp at this; omega
                have m2 := m1.pushB sa sb eb hib leb
                obtain ⟨ta, qa, ea2⟩ := IntKeys.at hA (show ia + k < a.size by omega)
                refine wpS_bind (wpS_elem eb ?_)
                by_cases h4 : ib + 1 = b.size
                · rw [if_pos (by simpa using h4)]
                  exact wpS_pure (.inl ⟨_, _, _, rfl, rfl, m2.doneB sa sb h4⟩)
                · rw [if_neg (by simpa using h4)]
                  refine wpS_bind (wpS_elem ea2 ?_)
                  refine wpS_bind (wpS_gallop (st := setG st gg) hk hB (by omega) (by omega) (fun i j h6 h7 => sb _ _ (by omega) (by omega)) fun k2 k2n low2 high2 => ?_)
                  dsimp only
                  by_cases hk2 : k2 > 0
                  · rw [if_pos hk2]
                    have m2' := m2.takeB sa sb k2 (by omega) (fun i hi _ => Int.le_of_lt (of_decide_eq_true (low2 i hi)))
                    by_cases h8 : ib + 1 + k2 = b.size
                    · rw [if_pos (by simpa using h8)]
                      exact wpS_pure (.inl ⟨_, _, _, rfl, rfl, m2'.doneB sa sb h8⟩)
                    · rw [if_neg (by simpa using h8)]
                      have le3 : ib + 1 + k2 < b.size → K a (ia + k) ≤ K b (ib + 1 + k2) := fun z => Int.not_lt.mp (of_decide_eq_false (high2 k2 (Nat.le_refl _) (by omega)))
                      have m3 := m2'.pushA sa sb ea2 (by omega) le3
                      refine wpS_bind (wpS_elem ea2 ?_)
                      by_cases h5 : ia + k + 1 + 1 = a.size
                      · rw [if_pos (by simpa using h5)]
                        exact wpS_pure (.inl ⟨_, _, _, rfl, rfl, m3.last sa sb h5 (top' _ h5)⟩)
                      · rw [if_neg (by simpa using h5)]
                        split
                        · exact wpS_pure (.inr ⟨_, _, _, _, _, _, _, rfl, rfl, m3, by omega, by omega, by omega⟩)
                        · exact wpS_pure ⟨_, _, _, _, _, _, _, rfl, rfl, m3, by omega, by omega, by omega⟩
                  · rw [if_neg hk2]
                    have k20 : k2 = 0 := by omega
                    subst k20
                    have le3 : ib + 1 < b.size → K a (ia + k) ≤ K b (ib + 1) := fun z => Int.not_lt.mp (of_decide_eq_false (high2 0 (Nat.le_refl _) (by omega)))
                    have m3 := m2.pushA sa sb ea2 (by omega) le3
                    refine wpS_bind (wpS_elem ea2 ?_)
                    by_cases h5 : ia + k + 1 + 1 = a.size
                    · rw [if_pos (by simpa using h5)]
                      exact wpS_pure (.inl ⟨_, _, _, rfl, rfl, m3.last sa sb h5 (top' _ h5)⟩)
                    · rw [if_neg (by simpa using h5)]
                      split
                      · exact wpS_pure (.inr ⟨_, _, _, _, _, _, _, rfl, rfl, m3, by omega, by omega, by omega⟩)
                      · exact wpS_pure ⟨_, _, _, _, _, _, _, rfl, rfl, m3, by omega, by omega, by omega⟩
          · rw [if_neg hk1]
            have k0 : k = 0 := by omega
            subst k0
            have leb : ia < a.size → K b ib ≤ K a (ia) := fun z => by have := high 0 (Nat.le_refl _) (by omega); unfold bey at this; simp at this; omega
            have m2 := m.pushB sa sb eb hib leb
            obtain ⟨ta, qa, ea2⟩ := IntKeys.at hA (show ia < a.size by omega)
            refine wpS_bind (wpS_elem eb ?_)
            by_cases h4 : ib + 1 = b.size
            · rw [if_pos (by simpa using h4)]
              exact wpS_pure (.inl ⟨_, _, _, rfl, rfl, m2.doneB sa sb h4⟩)
            · rw [if_neg (by simpa using h4)]
              refine wpS_bind (wpS_elem ea2 ?_)
              refine wpS_bind (wpS_gallop (st := setG st gg) hk hB (by omega) (by omega) (fun i j h6 h7 => sb _ _ (by omega) (by omega)) fun k2 k2n low2 high2 => ?_)
              dsimp only
              by_cases hk2 : k2 > 0
              · rw [if_pos hk2]
                have m2' := m2.takeB sa sb k2 (by omega) (fun i hi _ => Int.le_of_lt (of_decide_eq_true (low2 i hi)))
                by_cases h8 : ib + 1 + k2 = b.size
                · rw [if_pos (by simpa using h8)]
                  exact wpS_pure (.inl ⟨_, _, _, rfl, rfl, m2'.doneB sa sb h8⟩)
                · rw [if_neg (by simpa using h8)]
                  have le3 : ib + 1 + k2 < b.size → K a ia ≤ K b (ib + 1 + k2) := fun z => Int.not_lt.mp (of_decide_eq_false (high2 k2 (Nat.le_refl _) (by omega)))
                  have m3 := m2'.pushA sa sb ea2 (by omega) le3
                  refine wpS_bind (wpS_elem ea2 ?_)
                  by_cases h5 : ia + 1 + 1 = a.size
                  · rw [if_pos (by simpa using h5)]
                    exact wpS_pure (.inl ⟨_, _, _, rfl, rfl, m3.last sa sb h5 (top' _ h5)⟩)
                  · rw [if_neg (by simpa using h5)]
                    split
                    · exact wpS_pure (.inr ⟨_, _, _, _, _, _, _, rfl, rfl, m3, by omega, by omega, by omega⟩)
                    · exact wpS_pure ⟨_, _, _, _, _, _, _, rfl, rfl, m3, by omega, by omega, by omega⟩
              · rw [if_neg hk2]
                have k20 : k2 = 0 := by omega
                subst k20
                have le3 : ib + 1 < b.size → K a ia ≤ K b (ib + 1) := fun z => Int.not_lt.mp (of_decide_eq_false (high2 0 (Nat.le_refl _) (by omega)))
                have m3 := m2.pushA sa sb ea2 (by omega) le3
                refine wpS_bind (wpS_elem ea2 ?_)
                by_cases h5 : ia + 1 + 1 = a.size
                · rw [if_pos (by simpa using h5)]
                  exact wpS_pure (.inl ⟨_, _, _, rfl, rfl, m3.last sa sb h5 (top' _ h5)⟩)
                · rw [if_neg (by simpa using h5)]
                  split
                  · exact wpS_pure (.inr ⟨_, _, _, _, _, _, _, rfl, rfl, m3, by omega, by omega, by omega⟩)
                  · exact wpS_pure ⟨_, _, _, _, _, _, _, rfl, rfl, m3, by omega, by omega, by omega⟩
end
structure Mh (a b out : Array Keyed) (na nb : Nat) : Prop where
  ha : na ≤ a.size
  hb : nb ≤ b.size
  perm : (a.toList.take na ++ (b.toList.take nb ++ out.toList.reverse)).Perm (a.toList ++ b.toList)
  srt : (out.toList.map key).Pairwise (fun x y => y ≤ x)
  lea : ∀ x ∈ out.toList, ∀ i, i < na → K a i ≤ key x
  leb : ∀ x ∈ out.toList, ∀ j, j < nb → K b j ≤ key x
theorem take_at {xs : Array Keyed} {n : Nat} {p : Keyed} (h : xs[n]? = some p) : xs.toList.take (n + 1) = xs.toList.take n ++ [p] := by
  have hi : n < xs.size := by
    rcases Nat.lt_or_ge n xs.size with z | z
    · exact z
    · rw [Array.getElem?_eq_none z] at h; cases h
  have hi' : n < xs.toList.length := by simpa using hi
  rw [List.take_succ_eq_append_getElem hi']
  congr 2
  rw [Array.getElem?_eq_getElem hi] at h
  simpa using h
variable {na nb : Nat}
theorem Mh.pushA (m : Mh a b out (na + 1) nb) (sa : Srt a) (sb : Srt b) {p : Keyed} (e : a[na]? = some p) (le : 0 < nb → K b (nb - 1) ≤ K a na) : Mh a b (out.push p) na nb := by
  have kp := K_at e
  have ha := m.ha
  refine ⟨by omega, m.hb, ?_, ?_, ?_, ?_⟩
  · have h := m.perm
    rw [take_at e] at h
    rw [Array.toList_push, List.reverse_append]
    refine List.Perm.trans ?_ h
    rw [List.append_assoc]
    refine List.Perm.append_left _ ?_
    show (b.toList.take nb ++ p :: out.toList.reverse).Perm (p :: (b.toList.take nb ++ out.toList.reverse))
    exact List.perm_middle
  · rw [Array.toList_push, List.map_append, List.pairwise_append]
    refine ⟨m.srt, List.pairwise_singleton _ _, fun x hx y hy => ?_⟩
    obtain ⟨z, hz, rfl⟩ := List.mem_map.mp hx
    have hy : y = key p := by simpa using hy
    rw [hy, ← kp]
    exact m.lea z hz na (by omega)
  · intro x hx i h1
    rw [Array.toList_push, List.mem_append] at hx
    rcases hx with hx | hx
    · exact m.lea x hx i (by omega)
    · have : x = p := by simpa using hx
      rw [this, ← kp]
      exact sa i na (by omega) (by omega)
  · intro x hx j h1
    rw [Array.toList_push, List.mem_append] at hx
    rcases hx with hx | hx
    · exact m.leb x hx j h1
    · have : x = p := by simpa using hx
      rw [this, ← kp]
      exact Int.le_trans (sb j (nb - 1) (by omega) (by have := m.hb; omega)) (le (by omega))
theorem Mh.pushB (m : Mh a b out na (nb + 1)) (sa : Srt a) (sb : Srt b) {p : Keyed} (e : b[nb]? = some p) (le : 0 < na → K a (na - 1) ≤ K b nb) : Mh a b (out.push p) na nb := by
  have kp := K_at e
  have hb := m.hb
  refine ⟨m.ha, by omega, ?_, ?_, ?_, ?_⟩
  · have h := m.perm
    rw [take_at e] at h
    rw [Array.toList_push, List.reverse_append]
    refine List.Perm.trans ?_ h
    rw [List.append_assoc]
    exact List.Perm.refl _
  · rw [Array.toList_push, List.map_append, List.pairwise_append]
    refine ⟨m.srt, List.pairwise_singleton _ _, fun x hx y hy => ?_⟩
    obtain ⟨z, hz, rfl⟩ := List.mem_map.mp hx
    have hy : y = key p := by simpa using hy
    rw [hy, ← kp]
    exact m.leb z hz nb (by omega)
  · intro x hx i h1
    rw [Array.toList_push, List.mem_append] at hx
    rcases hx with hx | hx
    · exact m.lea x hx i h1
    · have : x = p := by simpa using hx
      rw [this, ← kp]
      exact Int.le_trans (sa i (na - 1) (by omega) (by have := m.ha; omega)) (le (by omega))
  · intro x hx j h1
    rw [Array.toList_push, List.mem_append] at hx
    rcases hx with hx | hx
    · exact m.leb x hx j (by omega)
    · have : x = p := by simpa using hx
      rw [this, ← kp]
      exact sb j nb (by omega) (by omega)
theorem rev_push {xs : Array Keyed} {i n : Nat} {p : Keyed} (hi : i ≤ n) (e : xs[i]? = some p) (hn : n ≤ xs.size) (hlt : i < n) : (xs.extract i n).reverse = (xs.extract (i + 1) n).reverse.push p := by
  have hz : i < xs.size := by omega
  rw [Array.getElem?_eq_getElem hz] at e
  apply Array.ext'
  rw [Array.toList_push, Array.toList_reverse, Array.toList_reverse, Array.toList_extract, Array.toList_extract]
  simp only [List.extract_eq_take_drop]
  have hl : i < xs.toList.length := by simpa using hz
  rw [List.drop_eq_getElem_cons hl, show n - i = (n - (i + 1)) + 1 by omega, List.take_succ_cons, List.reverse_cons]
  congr 2
  simpa using e
theorem Mh.takeA (sa : Srt a) (sb : Srt b) : ∀ (k : Nat) {na : Nat} {out : Array Keyed}, Mh a b out na nb → ∀ lo, lo + k = na → (∀ i, lo ≤ i → i < na → 0 < nb → K b (nb - 1) ≤ K a i) → Mh a b (out ++ (a.extract lo na).reverse) lo nb
  | 0, na, out, m, lo, h, _ => by
    have : lo = na := by omega
    subst this
    have e : a.extract lo lo = #[] := by simp; omega
    rw [e]
    simpa using m
  | k + 1, na, out, m, lo, h, h2 => by
    have ih := Mh.takeA sa sb k m (lo + 1) (by omega) (fun i hi => h2 i (by omega))
    have ha := m.ha
    have e : a[lo]? = some a[lo] := Array.getElem?_eq_getElem (by omega)
    rw [rev_push (by omega) e ha (by omega), Array.append_push]
    exact ih.pushA sa sb e (h2 lo (Nat.le_refl _) (by omega))
theorem Mh.takeB (sa : Srt a) (sb : Srt b) : ∀ (k : Nat) {nb : Nat} {out : Array Keyed}, Mh a b out na nb → ∀ lo, lo + k = nb → (∀ i, lo ≤ i → i < nb → 0 < na → K a (na - 1) ≤ K b i) → Mh a b (out ++ (b.extract lo nb).reverse) na lo
  | 0, nb, out, m, lo, h, _ => by
    have : lo = nb := by omega
    subst this
    have e : b.extract lo lo = #[] := by simp; omega
    rw [e]
    simpa using m
  | k + 1, nb, out, m, lo, h, h2 => by
    have ih := Mh.takeB sa sb k m (lo + 1) (by omega) (fun i hi => h2 i (by omega))
    have hb := m.hb
    have e : b[lo]? = some b[lo] := Array.getElem?_eq_getElem (by omega)
    rw [rev_push (by omega) e hb (by omega), Array.append_push]
    exact ih.pushB sa sb e (h2 lo (Nat.le_refl _) (by omega))
theorem Mh.fin (m : Mh a b out 0 0) : Fin a b out.reverse := by
  have h := m.perm
  refine ⟨?_, ?_⟩
  · rw [Array.toList_reverse]; exact h
  · rw [Array.toList_reverse, List.map_reverse, List.pairwise_reverse]
    exact m.srt
theorem Mh.doneA (m : Mh a b out na nb) (sa : Srt a) (sb : Srt b) (h : na = 0) : Fin a b (a.extract 0 na ++ b.extract 0 nb ++ out.reverse) := by
  subst h
  have h1 := Mh.takeB sa sb nb m 0 (by omega) (fun i _ _ z => by omega)
  have h2 := h1.fin
  have e : a.extract 0 0 = #[] := by simp
  rw [e]
  simpa using h2
theorem Mh.doneB (m : Mh a b out na nb) (sa : Srt a) (sb : Srt b) (h : nb = 0) : Fin a b (a.extract 0 na ++ b.extract 0 nb ++ out.reverse) := by
  subst h
  have h1 := Mh.takeA sa sb na m 0 (by omega) (fun i _ _ z => by omega)
  have h2 := h1.fin
  have e : b.extract 0 0 = #[] := by simp
  rw [e]
  simpa using h2
theorem Mh.firstB (m : Mh a b out na nb) (sa : Srt a) (sb : Srt b) (h : nb = 1) (first : ∀ i, i < a.size → K b 0 ≤ K a i) : Fin a b (b.extract 0 nb ++ a.extract 0 na ++ out.reverse) := by
  subst h
  have h1 := Mh.takeA sa sb na m 0 (by omega) (fun i _ z _ => first i (by have := m.ha; omega))
  have h2 := Mh.takeB sa sb 1 h1 0 rfl (fun i _ _ z => by omega)
  have h3 := h2.fin
  simpa using h3
section
variable {prog : Program} {w : World} {A : Around} {E : Value → Shared → Prop} {s : Shared}
noncomputable def mergeHi' : Array Keyed → Array Keyed → StateT SortSt Sem (Array Keyed) := sortPriv% PySem.Builtin.mergeHi
theorem wpS_mergeHi {st : SortSt} {a b : Array Keyed} {Q : Array Keyed → SortSt → Prop} (hk : kindOf st = oneType') (hA : IntKeys a) (hB : IntKeys b) (sa : Srt a) (sb : Srt b) (na0 : 1 ≤ a.size) (nb0 : 1 ≤ b.size) (first : K b 0 ≤ K a 0) (top : ∀ j, j < b.size → K b j ≤ K a (a.size - 1))
    (h : ∀ R g, Fin a b R → Q R (setG st g)) : wpS (model prog w) A E s (mergeHi' a b) Q st := by
  have first' : ∀ i, i < a.size → K b 0 ≤ K a i := fun i hi => Int.le_trans first (sa 0 i (Nat.zero_le _) hi)
  have m0 : Mh a b #[] (a.size - 1 + 1) b.size := ⟨by omega, Nat.le_refl _, by rw [List.take_of_length_le (by simp; omega), List.take_of_length_le (by simp)]; simp, .nil, (fun x hx => by simp at hx), (fun x hx => by simp at hx)⟩
  obtain ⟨t0, q0, e0⟩ := IntKeys.at hA (show a.size - 1 < a.size by omega)
  have m1 := m0.pushA sa sb e0 (fun _ => top _ (by omega))
  unfold mergeHi'
  change wpS _ _ _ _ (bind _ _) _ _
  dsimp only
  refine wpS_bind (wpS_lift (wpAny_rule ⟨rfl, ?_⟩))
  refine wpS_bind (wpS_elem e0 ?_)
  by_cases ha1 : a.size - 1 = 0
  · rw [if_pos (by simpa using ha1)]
    exact wpS_pure (h _ (gallopOf st) (m1.doneA sa sb ha1))
  rw [if_neg (by simpa using ha1)]
  by_cases hb1 : b.size = 1
  · rw [if_pos (by simpa using hb1)]
    exact wpS_pure (h _ (gallopOf st) (m1.firstB sa sb hb1 first'))
  rw [if_neg (by simpa using hb1)]
  refine wpS_bind (wpS_get ?_)
  refine wpS_bind (wpS_mono (wpS_forRange (I := fun x c st' => ∃ g na nb out mg, st' = setG st g ∧ c = (none, na, nb, out, mg) ∧ Mh a b out na nb ∧ 1 ≤ na ∧ 2 ≤ nb ∧ x + 1 + na + nb ≤ a.size + b.size)
    (Q := fun c st' => ∃ R g r, c = (some R, r) ∧ st' = setG st g ∧ Fin a b R) ?step ?fin ⟨gallopOf st, a.size - 1, b.size, _, _, rfl, rfl, m1, by omega, by omega, by omega⟩) ?post)
  case post =>
    rintro c st' ⟨R, g, r, rfl, rfl, f⟩
    exact wpS_pure (h R g f)
  case fin =>
    rintro c st' ⟨g, na, nb, out, mg, rfl, rfl, m, h1, h2, h3⟩
    omega
  case step =>
    rintro x c st' _ hx ⟨g, na, nb, out, mg, rfl, rfl, m, h1, h2, h3⟩
    dsimp only
    refine wpS_bind (wpS_mono (wpS_forRange (I := fun y c st' => st' = setG st g ∧ ∃ na nb out ac bc, c = (none, na, nb, out, ac, bc) ∧ Mh a b out na nb ∧ 1 ≤ na ∧ 2 ≤ nb ∧ x + 1 + y + na + nb ≤ a.size + b.size)
      (Q := fun c st' => st' = setG st g ∧ ((∃ R r, c = (some R, r) ∧ Fin a b R) ∨ ∃ na nb out ac bc, c = (none, na, nb, out, ac, bc) ∧ Mh a b out na nb ∧ 1 ≤ na ∧ 2 ≤ nb ∧ x + 2 + na + nb ≤ a.size + b.size)) ?st1 ?fin1 ⟨rfl, na, nb, out, 0, 0, rfl, m, h1, h2, by omega⟩) ?post1)
    case fin1 =>
      rintro c st' ⟨rfl, na, nb, out, ac, bc, rfl, m, h1, h2, h3⟩
      exact ⟨rfl, .inr ⟨na, nb, out, ac, bc, rfl, m, h1, h2, by omega⟩⟩
    case st1 =>
      rintro y c st' _ hy ⟨rfl, na, nb, out, ac, bc, rfl, m, h1, h2, h3⟩
      dsimp only
      have haz := m.ha
      have hbz := m.hb
      obtain ⟨tb, qb, eb⟩ := IntKeys.at hB (show nb - 1 < b.size by omega)
      obtain ⟨ta, qa, ea⟩ := IntKeys.at hA (show na - 1 < a.size by omega)
      refine wpS_bind (wpS_elem eb ?_)
      refine wpS_bind (wpS_elem ea ?_)
      refine wpS_bind (wpS_lt (st := setG st g) hk ?_)
      by_cases hw : K b (nb - 1) < K a (na - 1)
      · simp only [hw, decide_true, if_true]
        have m2 : Mh a b _ (na - 1) nb := Mh.pushA (na := na - 1) (by rw [show na - 1 + 1 = na by omega]; exact m) sa sb ea (fun _ => Int.le_of_lt hw)
        refine wpS_bind (wpS_elem ea ?_)
        by_cases h4 : na - 1 = 0
        · rw [if_pos (by simpa using h4)]
          exact wpS_pure ⟨rfl, .inl ⟨_, _, rfl, m2.doneA sa sb h4⟩⟩
        · rw [if_neg (by simpa using h4)]
          split
          · exact wpS_pure ⟨rfl, .inr ⟨_, _, _, _, _, rfl, m2, by omega, by omega, by omega⟩⟩
          · exact wpS_pure ⟨rfl, _, _, _, _, _, rfl, m2, by omega, by omega, by omega⟩
      · simp only [hw, decide_false, Bool.false_eq_true, if_false]
        have m2 : Mh a b _ na (nb - 1) := Mh.pushB (nb := nb - 1) (by rw [show nb - 1 + 1 = nb by omega]; exact m) sa sb eb (fun _ => Int.not_lt.mp hw)
        refine wpS_bind (wpS_elem eb ?_)
        by_cases h4 : nb - 1 = 1
        · rw [if_pos (by simpa using h4)]
          exact wpS_pure ⟨rfl, .inl ⟨_, _, rfl, m2.firstB sa sb h4 first'⟩⟩
        · rw [if_neg (by simpa using h4)]
          split
          · exact wpS_pure ⟨rfl, .inr ⟨_, _, _, _, _, rfl, m2, by omega, by omega, by omega⟩⟩
          · exact wpS_pure ⟨rfl, _, _, _, _, _, rfl, m2, by omega, by omega, by omega⟩
    case post1 =>
      rintro c st' ⟨rfl, ⟨R, r, rfl, f⟩ | ⟨na, nb, out, ac, bc, rfl, m, h1, h2, h3⟩⟩
      · exact wpS_pure ⟨R, g, _, rfl, rfl, f⟩
      dsimp only
      refine wpS_bind (wpS_lift (wpAny_rule ⟨rfl, ?_⟩))
      refine wpS_bind (wpS_mono (wpS_forRange (I := fun y c st' => ∃ g na nb out mg ac bc, st' = setG st g ∧ c = (none, na, nb, out, mg, ac, bc) ∧ Mh a b out na nb ∧ 1 ≤ na ∧ 2 ≤ nb ∧ x + 2 + na + nb ≤ a.size + b.size)
        (Q := fun c st' => (∃ R g r, c = (some R, r) ∧ st' = setG st g ∧ Fin a b R) ∨ ∃ g na nb out mg ac bc, st' = setG st g ∧ c = (none, na, nb, out, mg, ac, bc) ∧ Mh a b out na nb ∧ 1 ≤ na ∧ 2 ≤ nb ∧ x + 2 + na + nb ≤ a.size + b.size) ?st2 ?fin2 ⟨g, na, nb, out, _, ac, bc, rfl, rfl, m, h1, h2, h3⟩) ?post2)
      case fin2 =>
        rintro c st' ⟨g, na, nb, out, mg, ac, bc, rfl, rfl, m, h1, h2, h3⟩
        exact .inr ⟨g, na, nb, out, mg, ac, bc, rfl, rfl, m, h1, h2, h3⟩
      case post2 =>
        rintro c st' (⟨R, g, r, rfl, rfl, f⟩ | ⟨g, na, nb, out, mg, ac, bc, rfl, rfl, m, h1, h2, h3⟩)
        · exact wpS_pure ⟨R, g, _, rfl, rfl, f⟩
        · dsimp only
          refine wpS_bind (wpS_setG ?_)
          exact wpS_pure ⟨mg + 1, na, nb, out, mg + 1, rfl, rfl, m, h1, h2, by omega⟩
      case st2 =>
        rintro y c st' _ hy ⟨g, na, nb, out, mg, ac, bc, rfl, rfl, m, h1, hib, h3⟩
        dsimp only
        by_cases hmg : mg > 1
        · rw [if_pos hmg]
          have hbz : nb ≤ b.size := m.hb
          have haz : na ≤ a.size := m.ha
          obtain ⟨tb, qb, eb⟩ := IntKeys.at hB (show nb - 1 < b.size by omega)
          refine wpS_bind (wpS_setG ?_)
          show wpS _ _ _ _ _ _ (setG st (mg - 1))
          obtain ⟨gg, egg⟩ : ∃ gg, (mg - 1) = gg := ⟨_, rfl⟩
          rw [egg]
          refine wpS_bind (wpS_elem eb ?_)
          refine wpS_bind (wpS_gallop (st := setG st gg) hk hA (by omega) (by omega) (fun i j h6 h7 => sa _ _ (by omega) (by omega)) fun k kn low high => ?_)
          simp only [Nat.zero_add] at low high
          dsimp only
          by_cases hk1 : na - k > 0
          · rw [if_pos hk1]
            have m1 := Mh.takeA sa sb (na - k) m k (by omega) (fun i hi hj _ => by have := high i hi hj; unfold bey at this; simp at this; omega)
            by_cases h2 : k = 0
            · rw [if_pos (by simpa using h2)]
              exact wpS_pure (.inl ⟨_, _, _, rfl, rfl, m1.doneA sa sb h2⟩)
            · rw [if_neg (by simpa using h2)]
              have m2 : Mh a b _ (k) (nb - 1) := Mh.pushB (nb := nb - 1) (by rw [show nb - 1 + 1 = nb by omega]; exact m1) sa sb eb (fun z => by have := low (k - 1) (by omega); unfold bey at this; simp at this; omega)
              have la : k ≤ a.size := m2.ha
              obtain ⟨ta, qa, ea2⟩ := IntKeys.at hA (show k - 1 < a.size by omega)
              refine wpS_bind (wpS_elem eb ?_)
              by_cases h4 : nb - 1 = 1
              · rw [if_pos (by simpa using h4)]
                exact wpS_pure (.inl ⟨_, _, _, rfl, rfl, m2.firstB sa sb h4 first'⟩)
              · rw [if_neg (by simpa using h4)]
                refine wpS_bind (wpS_elem ea2 ?_)
                refine wpS_bind (wpS_gallop (st := setG st gg) hk hB (by omega) (by omega) (fun i j h6 h7 => sb _ _ (by omega) (by omega)) fun k2 k2n low2 high2 => ?_)
                simp only [Nat.zero_add] at low2 high2
                dsimp only
                by_cases hk2 : nb - 1 - k2 > 0
                · rw [if_pos hk2]
                  have m2' := Mh.takeB sa sb (nb - 1 - k2) m2 k2 (by omega) (fun i hi hj _ => Int.not_lt.mp (of_decide_eq_false (high2 i hi hj)))
                  by_cases h8 : k2 = 1
                  · rw [if_pos (by simpa using h8)]
                    exact wpS_pure (.inl ⟨_, _, _, rfl, rfl, m2'.firstB sa sb h8 first'⟩)
                  · rw [if_neg (by simpa using h8)]
                    by_cases h9 : k2 = 0
                    · rw [if_pos (by simpa using h9)]
                      exact wpS_pure (.inl ⟨_, _, _, rfl, rfl, m2'.doneB sa sb h9⟩)
                    · rw [if_neg (by simpa using h9)]
                      have m3 : Mh a b _ (k - 1) (k2) := Mh.pushA (na := k - 1) (by rw [show k - 1 + 1 = k by omega]; exact m2') sa sb ea2 (fun z => Int.le_of_lt (of_decide_eq_true (low2 (k2 - 1) (by omega))))
                      refine wpS_bind (wpS_elem ea2 ?_)
                      by_cases h5 : k - 1 = 0
                      · rw [if_pos (by simpa using h5)]
                        exact wpS_pure (.inl ⟨_, _, _, rfl, rfl, m3.doneA sa sb h5⟩)
                      · rw [if_neg (by simpa using h5)]
                        split
                        · exact wpS_pure (.inr ⟨_, _, _, _, _, _, _, rfl, rfl, m3, by omega, by omega, by omega⟩)
                        · exact wpS_pure ⟨_, _, _, _, _, _, _, rfl, rfl, m3, by omega, by omega, by omega⟩
                · rw [if_neg hk2]
                  have m3 : Mh a b _ (k - 1) (nb - 1) := Mh.pushA (na := k - 1) (by rw [show k - 1 + 1 = k by omega]; exact m2) sa sb ea2 (fun z => Int.le_of_lt (of_decide_eq_true (low2 (nb - 1 - 1) (by omega))))
                  refine wpS_bind (wpS_elem ea2 ?_)
                  by_cases h5 : k - 1 = 0
                  · rw [if_pos (by simpa using h5)]
                    exact wpS_pure (.inl ⟨_, _, _, rfl, rfl, m3.doneA sa sb h5⟩)
                  · rw [if_neg (by simpa using h5)]
                    split
                    · exact wpS_pure (.inr ⟨_, _, _, _, _, _, _, rfl, rfl, m3, by omega, by omega, by omega⟩)
                    · exact wpS_pure ⟨_, _, _, _, _, _, _, rfl, rfl, m3, by omega, by omega, by omega⟩
          · rw [if_neg hk1]
            have m2 : Mh a b _ (na) (nb - 1) := Mh.pushB (nb := nb - 1) (by rw [show nb - 1 + 1 = nb by omega]; exact m) sa sb eb (fun z => by have := low (na - 1) (by omega); unfold bey at this; simp at this; omega)
            have la : na ≤ a.size := m2.ha
            obtain ⟨ta, qa, ea2⟩ := IntKeys.at hA (show na - 1 < a.size by omega)
            refine wpS_bind (wpS_elem eb ?_)
            by_cases h4 : nb - 1 = 1
            · rw [if_pos (by simpa using h4)]
              exact wpS_pure (.inl ⟨_, _, _, rfl, rfl, m2.firstB sa sb h4 first'⟩)
            · rw [if_neg (by simpa using h4)]
              refine wpS_bind (wpS_elem ea2 ?_)
              refine wpS_bind (wpS_gallop (st := setG st gg) hk hB (by omega) (by omega) (fun i j h6 h7 => sb _ _ (by omega) (by omega)) fun k2 k2n low2 high2 => ?_)
              simp only [Nat.zero_add] at low2 high2
              dsimp only
              by_cases hk2 : nb - 1 - k2 > 0
              · rw [if_pos hk2]
                have m2' := Mh.takeB sa sb (nb - 1 - k2) m2 k2 (by omega) (fun i hi hj _ => Int.not_lt.mp (of_decide_eq_false (high2 i hi hj)))
                by_cases h8 : k2 = 1
                · rw [if_pos (by simpa using h8)]
                  exact wpS_pure (.inl ⟨_, _, _, rfl, rfl, m2'.firstB sa sb h8 first'⟩)
                · rw [if_neg (by simpa using h8)]
                  by_cases h9 : k2 = 0
                  · rw [if_pos (by simpa using h9)]
                    exact wpS_pure (.inl ⟨_, _, _, rfl, rfl, m2'.doneB sa sb h9⟩)
                  · rw [if_neg (by simpa using h9)]
                    have m3 : Mh a b _ (na - 1) (k2) := Mh.pushA (na := na - 1) (by rw [show na - 1 + 1 = na by omega]; exact m2') sa sb ea2 (fun z => Int.le_of_lt (of_decide_eq_true (low2 (k2 - 1) (by omega))))
                    refine wpS_bind (wpS_elem ea2 ?_)
                    by_cases h5 : na - 1 = 0
                    · rw [if_pos (by simpa using h5)]
                      exact wpS_pure (.inl ⟨_, _, _, rfl, rfl, m3.doneA sa sb h5⟩)
                    · rw [if_neg (by simpa using h5)]
                      split
                      · exact wpS_pure (.inr ⟨_, _, _, _, _, _, _, rfl, rfl, m3, by omega, by omega, by omega⟩)
                      · exact wpS_pure ⟨_, _, _, _, _, _, _, rfl, rfl, m3, by omega, by omega, by omega⟩
              · rw [if_neg hk2]
                have m3 : Mh a b _ (na - 1) (nb - 1) := Mh.pushA (na := na - 1) (by rw [show na - 1 + 1 = na by omega]; exact m2) sa sb ea2 (fun z => Int.le_of_lt (of_decide_eq_true (low2 (nb - 1 - 1) (by omega))))
                refine wpS_bind (wpS_elem ea2 ?_)
                by_cases h5 : na - 1 = 0
                · rw [if_pos (by simpa using h5)]
                  exact wpS_pure (.inl ⟨_, _, _, rfl, rfl, m3.doneA sa sb h5⟩)
                · rw [if_neg (by simpa using h5)]
                  split
                  · exact wpS_pure (.inr ⟨_, _, _, _, _, _, _, rfl, rfl, m3, by omega, by omega, by omega⟩)
                  · exact wpS_pure ⟨_, _, _, _, _, _, _, rfl, rfl, m3, by omega, by omega, by omega⟩
        · rw [if_neg hmg]
          have hbz : nb ≤ b.size := m.hb
          have haz : na ≤ a.size := m.ha
          obtain ⟨tb, qb, eb⟩ := IntKeys.at hB (show nb - 1 < b.size by omega)
          refine wpS_bind (wpS_setG ?_)
          show wpS _ _ _ _ _ _ (setG st mg)
          obtain ⟨gg, egg⟩ : ∃ gg, mg = gg := ⟨_, rfl⟩
          rw [egg]
          refine wpS_bind (wpS_elem eb ?_)
          refine wpS_bind (wpS_gallop (st := setG st gg) hk hA (by omega) (by omega) (fun i j h6 h7 => sa _ _ (by omega) (by omega)) fun k kn low high => ?_)
          simp only [Nat.zero_add] at low high
          dsimp only
          by_cases hk1 : na - k > 0
          · rw [if_pos hk1]
            have m1 := Mh.takeA sa sb (na - k) m k (by omega) (fun i hi hj _ => by have := high i hi hj; unfold bey at this; simp at this; omega)
            by_cases h2 : k = 0
            · rw [if_pos (by simpa using h2)]
              exact wpS_pure (.inl ⟨_, _, _, rfl, rfl, m1.doneA sa sb h2⟩)
            · rw [if_neg (by simpa using h2)]
              have m2 : Mh a b _ (k) (nb - 1) := Mh.pushB (nb := nb - 1) (by rw [show nb - 1 + 1 = nb by omega]; exact m1) sa sb eb (fun z => by have := low (k - 1) (by omega); unfold bey at this; simp at this; omega)
              have la : k ≤ a.size := m2.ha
              obtain ⟨ta, qa, ea2⟩ := IntKeys.at hA (show k - 1 < a.size by omega)
              refine wpS_bind (wpS_elem eb ?_)
              by_cases h4 : nb - 1 = 1
              · rw [if_pos (by simpa using h4)]
                exact wpS_pure (.inl ⟨_, _, _, rfl, rfl, m2.firstB sa sb h4 first'⟩)
              · rw [if_neg (by simpa using h4)]
                refine wpS_bind (wpS_elem ea2 ?_)
                refine wpS_bind (wpS_gallop (st := setG st gg) hk hB (by omega) (by omega) (fun i j h6 h7 => sb _ _ (by omega) (by omega)) fun k2 k2n low2 high2 => ?_)
                simp only [Nat.zero_add] at low2 high2
                dsimp only
                by_cases hk2 : nb - 1 - k2 > 0
                · rw [if_pos hk2]
                  have m2' := Mh.takeB sa sb (nb - 1 - k2) m2 k2 (by omega) (fun i hi hj _ => Int.not_lt.mp (of_decide_eq_false (high2 i hi hj)))
                  by_cases h8 : k2 = 1
                  · rw [if_pos (by simpa using h8)]
                    exact wpS_pure (.inl ⟨_, _, _, rfl, rfl, m2'.firstB sa sb h8 first'⟩)
                  · rw [if_neg (by simpa using h8)]
                    by_cases h9 : k2 = 0
                    · rw [if_pos (by simpa using h9)]
                      exact wpS_pure (.inl ⟨_, _, _, rfl, rfl, m2'.doneB sa sb h9⟩)
                    · rw [if_neg (by simpa using h9)]
                      have m3 : Mh a b _ (k - 1) (k2) := Mh.pushA (na := k - 1) (by rw [show k - 1 + 1 = k by omega]; exact m2') sa sb ea2 (fun z => Int.le_of_lt (of_decide_eq_true (low2 (k2 - 1) (by omega))))
                      refine wpS_bind (wpS_elem ea2 ?_)
                      by_cases h5 : k - 1 = 0
                      · rw [if_pos (by simpa using h5)]
                        exact wpS_pure (.inl ⟨_, _, _, rfl, rfl, m3.doneA sa sb h5⟩)
                      · rw [if_neg (by simpa using h5)]
                        split
                        · exact wpS_pure (.inr ⟨_, _, _, _, _, _, _, rfl, rfl, m3, by omega, by omega, by omega⟩)
                        · exact wpS_pure ⟨_, _, _, _, _, _, _, rfl, rfl, m3, by omega, by omega, by omega⟩
                · rw [if_neg hk2]
                  have m3 : Mh a b _ (k - 1) (nb - 1) := Mh.pushA (na := k - 1) (by rw [show k - 1 + 1 = k by omega]; exact m2) sa sb ea2 (fun z => Int.le_of_lt (of_decide_eq_true (low2 (nb - 1 - 1) (by omega))))
                  refine wpS_bind (wpS_elem ea2 ?_)
                  by_cases h5 : k - 1 = 0
                  · rw [if_pos (by simpa using h5)]
                    exact wpS_pure (.inl ⟨_, _, _, rfl, rfl, m3.doneA sa sb h5⟩)
                  · rw [if_neg (by simpa using h5)]
                    split
                    · exact wpS_pure (.inr ⟨_, _, _, _, _, _, _, rfl, rfl, m3, by omega, by omega, by omega⟩)
                    · exact wpS_pure ⟨_, _, _, _, _, _, _, rfl, rfl, m3, by omega, by omega, by omega⟩
          · rw [if_neg hk1]
            have m2 : Mh a b _ (na) (nb - 1) := Mh.pushB (nb := nb - 1) (by rw [show nb - 1 + 1 = nb by omega]; exact m) sa sb eb (fun z => by have := low (na - 1) (by omega); unfold bey at this; simp at this; omega)
            have la : na ≤ a.size := m2.ha
            obtain ⟨ta, qa, ea2⟩ := IntKeys.at hA (show na - 1 < a.size by omega)
            refine wpS_bind (wpS_elem eb ?_)
            by_cases h4 : nb - 1 = 1
            · rw [if_pos (by simpa using h4)]
              exact wpS_pure (.inl ⟨_, _, _, rfl, rfl, m2.firstB sa sb h4 first'⟩)
            · rw [if_neg (by simpa using h4)]
              refine wpS_bind (wpS_elem ea2 ?_)
              refine wpS_bind (wpS_gallop (st := setG st gg) hk hB (by omega) (by omega) (fun i j h6 h7 => sb _ _ (by omega) (by omega)) fun k2 k2n low2 high2 => ?_)
              simp only [Nat.zero_add] at low2 high2
              dsimp only
              by_cases hk2 : nb - 1 - k2 > 0
              · rw [if_pos hk2]
                have m2' := Mh.takeB sa sb (nb - 1 - k2) m2 k2 (by omega) (fun i hi hj _ => Int.not_lt.mp (of_decide_eq_false (high2 i hi hj)))
                by_cases h8 : k2 = 1
                · rw [if_pos (by simpa using h8)]
                  exact wpS_pure (.inl ⟨_, _, _, rfl, rfl, m2'.firstB sa sb h8 first'⟩)
                · rw [if_neg (by simpa using h8)]
                  by_cases h9 : k2 = 0
                  · rw [if_pos (by simpa using h9)]
                    exact wpS_pure (.inl ⟨_, _, _, rfl, rfl, m2'.doneB sa sb h9⟩)
                  · rw [if_neg (by simpa using h9)]
                    have m3 : Mh a b _ (na - 1) (k2) := Mh.pushA (na := na - 1) (by rw [show na - 1 + 1 = na by omega]; exact m2') sa sb ea2 (fun z => Int.le_of_lt (of_decide_eq_true (low2 (k2 - 1) (by omega))))
                    refine wpS_bind (wpS_elem ea2 ?_)
                    by_cases h5 : na - 1 = 0
                    · rw [if_pos (by simpa using h5)]
                      exact wpS_pure (.inl ⟨_, _, _, rfl, rfl, m3.doneA sa sb h5⟩)
                    · rw [if_neg (by simpa using h5)]
                      split
                      · exact wpS_pure (.inr ⟨_, _, _, _, _, _, _, rfl, rfl, m3, by omega, by omega, by omega⟩)
                      · exact wpS_pure ⟨_, _, _, _, _, _, _, rfl, rfl, m3, by omega, by omega, by omega⟩
              · rw [if_neg hk2]
                have m3 : Mh a b _ (na - 1) (nb - 1) := Mh.pushA (na := na - 1) (by rw [show na - 1 + 1 = na by omega]; exact m2) sa sb ea2 (fun z => Int.le_of_lt (of_decide_eq_true (low2 (nb - 1 - 1) (by omega))))
                refine wpS_bind (wpS_elem ea2 ?_)
                by_cases h5 : na - 1 = 0
                · rw [if_pos (by simpa using h5)]
                  exact wpS_pure (.inl ⟨_, _, _, rfl, rfl, m3.doneA sa sb h5⟩)
                · rw [if_neg (by simpa using h5)]
                  split
                  · exact wpS_pure (.inr ⟨_, _, _, _, _, _, _, rfl, rfl, m3, by omega, by omega, by omega⟩)
                  · exact wpS_pure ⟨_, _, _, _, _, _, _, rfl, rfl, m3, by omega, by omega, by omega⟩
end
theorem put_list : ∀ (l : List Keyed) (n : Nat) (xs : Array Keyed) (pos : Nat), pos + n + l.length ≤ xs.size → ((l.zipIdx n).foldl (fun a x => a.setIfInBounds (pos + x.2) x.1) xs).toList = xs.toList.take (pos + n) ++ (l ++ xs.toList.drop (pos + n + l.length))
  | [], n, xs, pos, h => by simp
  | p :: l, n, xs, pos, h => by
    have hl : (p :: l).length = l.length + 1 := rfl
    rw [hl] at h ⊢
    rw [List.zipIdx_cons, List.foldl_cons]
    have ih := put_list l (n + 1) (xs.setIfInBounds (pos + n) p) pos (by rw [Array.size_setIfInBounds]; omega)
    rw [ih, Array.toList_setIfInBounds]
    have hlen : xs.toList.length = xs.size := by simp
    rw [show pos + (n + 1) = pos + n + 1 by omega, List.take_set, List.drop_set_of_lt (by omega)]
    rw [List.take_succ_eq_append_getElem (by omega), List.set_append_right _ _ (by rw [List.length_take]; omega)]
    rw [show pos + n - (xs.toList.take (pos + n)).length = 0 by rw [List.length_take]; omega]
    show (xs.toList.take (pos + n) ++ [p]) ++ (l ++ _) = _
    rw [List.append_assoc, show pos + n + 1 + l.length = pos + n + (l.length + 1) by omega]
    rfl
theorem mem_part {xs : Array Keyed} {lo m : Nat} {z : Keyed} (h : z ∈ (xs.toList.drop lo).take m) : ∃ i, lo ≤ i ∧ i < lo + m ∧ i < xs.size ∧ key z = K xs i := by
  obtain ⟨j, hj⟩ := List.getElem?_of_mem h
  have hjl := (List.getElem?_eq_some_iff.mp hj).1
  rw [List.length_take, List.length_drop] at hjl
  have hlen : xs.toList.length = xs.size := by simp
  rw [List.getElem?_take_of_lt (by omega), List.getElem?_drop] at hj
  refine ⟨lo + j, by omega, by omega, by omega, ?_⟩
  rw [K_at (p := z) (by rw [← Array.getElem?_toList]; exact hj)]
theorem pw_part {xs : Array Keyed} {lo m : Nat} (h : ∀ i j, lo ≤ i → i ≤ j → j < lo + m → j < xs.size → K xs i ≤ K xs j) : (((xs.toList.drop lo).take m).map key).Pairwise (· ≤ ·) := by
  rw [List.pairwise_iff_getElem]
  intro p q hp hq hpq
  have hlen : xs.toList.length = xs.size := by simp
  have hq' := hq
  rw [List.length_map, List.length_take, List.length_drop] at hq'
  have e : ∀ r (hr : r < (((xs.toList.drop lo).take m).map key).length), (((xs.toList.drop lo).take m).map key)[r] = K xs (lo + r) := by
    intro r hr
    have hr' := hr
    rw [List.length_map, List.length_take, List.length_drop] at hr'
    rw [List.getElem_map, List.getElem_take, List.getElem_drop]
    have hz : lo + r < xs.size := by omega
    rw [K_at (p := xs[lo + r]) (Array.getElem?_eq_getElem hz)]
    rfl
  rw [e p hp, e q hq]
  exact h _ _ (by omega) (by omega) (by omega) (by omega)
theorem srt_of {xs : Array Keyed} (h : (xs.toList.map key).Pairwise (· ≤ ·)) : Srt xs := by
  intro i j hij hj
  by_cases e : i = j
  · subst e; exact Int.le_refl _
  · rw [List.pairwise_iff_getElem] at h
    have hj' : j < (xs.toList.map key).length := by simpa using hj
    have h3 := h i j (by omega) hj' (by omega)
    rw [List.getElem_map, List.getElem_map] at h3
    rw [K_at (p := xs[i]'(by omega)) (Array.getElem?_eq_getElem _), K_at (p := xs[j]) (Array.getElem?_eq_getElem _)]
    simpa using h3
theorem ext_list (xs : Array Keyed) (lo hi : Nat) : (xs.extract lo hi).toList = (xs.toList.drop lo).take (hi - lo) := by
  rw [Array.toList_extract, List.extract_eq_take_drop]
theorem K_ext {xs : Array Keyed} {lo hi i : Nat} (h : lo + i < hi) (hz : hi ≤ xs.size) : K (xs.extract lo hi) i = K xs (lo + i) := by
  refine K_congr ?_
  rw [Array.getElem?_extract_of_lt (by omega)]
  exact (Array.getElem?_eq_getElem (by omega)).symm
theorem ext_keys {xs : Array Keyed} (h : IntKeys xs) (lo hi : Nat) : IntKeys (xs.extract lo hi) := fun p hp => by
  rw [ext_list] at hp
  exact h p (List.mem_of_mem_drop (List.mem_of_mem_take hp))
section
variable {prog : Program} {w : World} {A : Around} {E : Value → Shared → Prop} {s : Shared}
theorem wpS_set {σ : Type} {M : Model} {st st' : σ} {Q : PUnit → σ → Prop} (h : Q ⟨⟩ st') : wpS M A E s (set st' : StateT σ Sem PUnit) Q st := by
  unfold wpS; rw [StateT.run_set]; exact wpAny_pure ⟨rfl, h⟩
theorem wpS_mergeAt {st : SortSt} {Q : Bool → SortSt → Prop} {n1 n2 pw : Nat} (hk : kindOf st = oneType') (hI : IntKeys (arrOf st)) (hf : failedOf st = none) (hp : pendingOf st = #[(0, n1, pw), (n1, n2, 0)]) (hz : (arrOf st).size = n1 + n2) (h1 : 1 ≤ n1) (h2 : 1 ≤ n2)
    (s1 : ∀ i j, i ≤ j → j < n1 → K (arrOf st) i ≤ K (arrOf st) j) (s2 : ∀ i j, n1 ≤ i → i ≤ j → j < n1 + n2 → K (arrOf st) i ≤ K (arrOf st) j)
    (h : ∀ st', failedOf st' = none → pendingOf st' = #[(0, n1 + n2, pw)] → (arrOf st').Perm (arrOf st) → Srt (arrOf st') → Q true st') : wpS (model prog w) A E s (mergeAt' 0) Q st := by
  have both : ∀ c : Nat, c < n1 → (∀ i, i < n1 → K (arrOf st) i ≤ K (arrOf st) n1) → Srt (arrOf st) := fun c _ hc i j hij hj => by
    rw [hz] at hj
    by_cases z1 : j < n1
    · exact s1 i j hij z1
    · by_cases z2 : n1 ≤ i
      · exact s2 i j z2 hij hj
      · exact Int.le_trans (hc i (by omega)) (s2 n1 j (Nat.le_refl _) (by omega) hj)
  unfold mergeAt'
  change wpS _ _ _ _ (bind _ _) _ _
  refine wpS_bind (wpS_get ?_)
  dsimp only
  have hp' : (sortPriv% PySem.Builtin.SortState.pending) st = #[(0, n1, pw), (n1, n2, 0)] := hp
  rw [hp']
  have ha' : ∀ z : SortSt, (sortPriv% PySem.Builtin.SortState.a) z = arrOf z := fun _ => rfl
  simp only [ha']
  have ep : ((#[(0, n1, pw), (n1, n2, 0)] : Array (Nat × Nat × Nat)).setIfInBounds 0 (0, n1 + n2, pw)).eraseIdxIfInBounds (0 + 1) = #[(0, n1 + n2, pw)] := by simp [Array.eraseIdxIfInBounds]
  show wpS _ _ _ _ (do
    set (setPending st (((#[(0, n1, pw), (n1, n2, 0)] : Array (Nat × Nat × Nat)).setIfInBounds 0 (0, n1 + n2, pw)).eraseIdxIfInBounds (0 + 1)))
    _) _ _
  rw [ep]
  refine wpS_bind (wpS_set ?_)
  obtain ⟨tb, qb, eb⟩ := IntKeys.at hI (show n1 < (arrOf st).size by omega)
  refine wpS_bind (wpS_elem eb ?_)
  refine wpS_bind (wpS_gallop (st := setPending st #[(0, n1 + n2, pw)]) hk hI (by omega) (by omega) (fun i j h6 h7 => by rw [Nat.zero_add, Nat.zero_add]; exact s1 _ _ h6 h7) fun k kn low high => ?_)
  simp only [Nat.zero_add] at low high
  dsimp only
  have lowK : ∀ i, i < k → K (arrOf st) i ≤ K (arrOf st) n1 := fun i hi => by have := low i hi; unfold bey at this; simp at this; omega
  by_cases hk0 : n1 - k = 0
  · rw [if_pos (by simpa using hk0)]
    exact wpS_pure (h _ hf rfl (Array.Perm.refl _) (both 0 (by omega) fun i hi => lowK i (by omega)))
  rw [if_neg (by simpa using hk0)]
  have highK : K (arrOf st) n1 < K (arrOf st) k := by have := high k (Nat.le_refl _) (by omega); unfold bey at this; simp at this; omega
  obtain ⟨ta, qa, ea⟩ := IntKeys.at hI (show n1 - 1 < (arrOf st).size by omega)
  rw [show 0 + k + (n1 - k) - 1 = n1 - 1 by omega]
  refine wpS_bind (wpS_elem ea ?_)
  refine wpS_bind (wpS_gallop (st := setPending st #[(0, n1 + n2, pw)]) hk hI (by omega) (by omega) (fun i j h6 h7 => s2 _ _ (by omega) (by omega) (by omega)) fun nb nbn low2 high2 => ?_)
  dsimp only
  by_cases hb0 : nb = 0
  · rw [if_pos (by simpa using hb0)]
    subst hb0
    have hh : K (arrOf st) (n1 - 1) ≤ K (arrOf st) n1 := Int.not_lt.mp (of_decide_eq_false (high2 0 (Nat.le_refl _) (by omega)))
    exact wpS_pure (h _ hf rfl (Array.Perm.refl _) (both 0 (by omega) fun i hi => Int.le_trans (s1 i (n1 - 1) (by omega) (by omega)) hh))
  rw [if_neg (by simpa using hb0)]
  have lowB : ∀ j, j < nb → K (arrOf st) (n1 + j) < K (arrOf st) (n1 - 1) := fun j hj => of_decide_eq_true (low2 j hj)
  have hX := ext_keys hI (0 + k) n1
  have hY := ext_keys hI n1 (n1 + nb)
  have zx : ((arrOf st).extract (0 + k) n1).size = n1 - k := by rw [Array.size_extract]; omega
  have zy : ((arrOf st).extract n1 (n1 + nb)).size = nb := by rw [Array.size_extract]; omega
  have kx : ∀ i, i < n1 - k → K ((arrOf st).extract (0 + k) n1) i = K (arrOf st) (k + i) := fun i hi => by rw [K_ext (by omega) (by omega), Nat.zero_add]
  have ky : ∀ j, j < nb → K ((arrOf st).extract n1 (n1 + nb)) j = K (arrOf st) (n1 + j) := fun j hj => K_ext (by omega) (by omega)
  have sx : Srt ((arrOf st).extract (0 + k) n1) := fun i j hij hj => by
    rw [zx] at hj
    rw [kx i (by omega), kx j hj]
    exact s1 _ _ (by omega) (by omega)
  have sy : Srt ((arrOf st).extract n1 (n1 + nb)) := fun i j hij hj => by
    rw [zy] at hj
    rw [ky i (by omega), ky j hj]
    exact s2 _ _ (by omega) (by omega) (by omega)
  have fst' : K ((arrOf st).extract n1 (n1 + nb)) 0 ≤ K ((arrOf st).extract (0 + k) n1) 0 := by
    rw [ky 0 (by omega), kx 0 (by omega)]
    exact Int.le_of_lt highK
  have top' : ∀ j, j < ((arrOf st).extract n1 (n1 + nb)).size → K ((arrOf st).extract n1 (n1 + nb)) j ≤ K ((arrOf st).extract (0 + k) n1) (((arrOf st).extract (0 + k) n1).size - 1) := fun j hj => by
    rw [zy] at hj
    rw [zx, ky j hj, kx _ (by omega), show k + (n1 - k - 1) = n1 - 1 by omega]
    exact Int.le_of_lt (lowB j hj)
  have done : ∀ R g, Fin ((arrOf st).extract (0 + k) n1) ((arrOf st).extract n1 (n1 + nb)) R → Q true (setArr (setG (setPending st #[(0, n1 + n2, pw)]) g) (R.toList.zipIdx.foldl (fun a x => a.setIfInBounds (0 + k + x.2) x.1) (arrOf st))) := by
    intro R g f
    have lx : ((arrOf st).extract (0 + k) n1).toList.length = n1 - k := by rw [Array.length_toList]; exact zx
    have lyy : ((arrOf st).extract n1 (n1 + nb)).toList.length = nb := by rw [Array.length_toList]; exact zy
    have lR : R.toList.length = n1 - k + nb := by rw [f.1.length_eq, List.length_append, lx, lyy]
    have e1 := put_list R.toList 0 (arrOf st) (0 + k) (by rw [lR]; omega)
    rw [lR, show 0 + k + 0 = k by omega, show k + (n1 - k + nb) = n1 + nb by omega] at e1
    have ex := ext_list (arrOf st) (0 + k) n1
    have ey := ext_list (arrOf st) n1 (n1 + nb)
    rw [show n1 + nb - n1 = nb by omega] at ey
    rw [Nat.zero_add] at ex
    have e2 : (arrOf st).toList = (arrOf st).toList.take k ++ ((((arrOf st).toList.drop k).take (n1 - k) ++ ((arrOf st).toList.drop n1).take nb) ++ (arrOf st).toList.drop (n1 + nb)) := by
      rw [List.append_assoc]
      conv => lhs; rw [← List.take_append_drop k (arrOf st).toList]
      congr 1
      conv => lhs; rw [← List.take_append_drop (n1 - k) ((arrOf st).toList.drop k)]
      rw [List.drop_drop, show k + (n1 - k) = n1 by omega]
      congr 1
      conv => lhs; rw [← List.take_append_drop nb ((arrOf st).toList.drop n1)]
      rw [List.drop_drop]
    have fp := f.1
    rw [Nat.zero_add, ex, ey] at fp
    refine h _ hf rfl ?_ (srt_of ?_)
    · refine Array.perm_iff_toList_perm.mpr ?_
      show (R.toList.zipIdx.foldl (fun a x => a.setIfInBounds (0 + k + x.2) x.1) (arrOf st)).toList.Perm _
      rw [e1]
      conv => rhs; rw [e2]
      exact List.Perm.append_left _ (List.Perm.append_right _ fp)
    · show ((R.toList.zipIdx.foldl (fun a x => a.setIfInBounds (0 + k + x.2) x.1) (arrOf st)).toList.map key).Pairwise _
      rw [e1, List.map_append, List.map_append, List.pairwise_append, List.pairwise_append]
      have pP : (((arrOf st).toList.take k).map key).Pairwise (· ≤ ·) := by
        have := pw_part (xs := arrOf st) (lo := 0) (m := k) (fun i j _ hij hj _ => s1 i j hij (by omega))
        rw [List.drop_zero] at this
        exact this
      have hlen : (arrOf st).toList.length = n1 + n2 := by simpa using hz
      have eS : (arrOf st).toList.drop (n1 + nb) = ((arrOf st).toList.drop (n1 + nb)).take (n1 + n2) := by rw [List.take_of_length_le (by rw [List.length_drop]; omega)]
      have pS : (((arrOf st).toList.drop (n1 + nb)).map key).Pairwise (· ≤ ·) := by
        rw [eS]
        exact pw_part (fun i j hi hij _ hj => s2 i j (by omega) hij (by omega))
      have inR : ∀ z ∈ R.toList, (∃ i, k ≤ i ∧ i < n1 ∧ key z = K (arrOf st) i) ∨ ∃ j, n1 ≤ j ∧ j < n1 + nb ∧ key z = K (arrOf st) j := fun z hz' => by
        have := fp.mem_iff.mp hz'
        rw [List.mem_append] at this
        rcases this with this | this
        · obtain ⟨i, a1, a2, _, a4⟩ := mem_part this
          exact .inl ⟨i, a1, by omega, a4⟩
        · obtain ⟨i, a1, a2, _, a4⟩ := mem_part this
          exact .inr ⟨i, a1, a2, a4⟩
      have inP : ∀ z ∈ (arrOf st).toList.take k, ∃ i, i < k ∧ key z = K (arrOf st) i := fun z hz' => by
        obtain ⟨i, _, a2, _, a4⟩ := mem_part (lo := 0) (m := k) (by rw [List.drop_zero]; exact hz')
        exact ⟨i, by omega, a4⟩
      have inS : ∀ z ∈ (arrOf st).toList.drop (n1 + nb), ∃ i, n1 + nb ≤ i ∧ i < n1 + n2 ∧ key z = K (arrOf st) i := fun z hz' => by
        rw [eS] at hz'
        obtain ⟨i, a1, _, a3, a4⟩ := mem_part hz'
        exact ⟨i, a1, by omega, a4⟩
      have RS : ∀ x ∈ R.toList.map key, ∀ y ∈ ((arrOf st).toList.drop (n1 + nb)).map key, x ≤ y := by
        intro x hx y hy
        obtain ⟨p, hp', rfl⟩ := List.mem_map.mp hx
        obtain ⟨q, hq', rfl⟩ := List.mem_map.mp hy
        obtain ⟨j, j1, j2, ej⟩ := inS q hq'
        rw [ej]
        have hh : K (arrOf st) (n1 - 1) ≤ K (arrOf st) (n1 + nb) := by
          exact Int.not_lt.mp (of_decide_eq_false (high2 nb (Nat.le_refl _) (by omega)))
        rcases inR p hp' with ⟨i, i1, i2, ei⟩ | ⟨i, i1, i2, ei⟩
        · rw [ei]
          exact Int.le_trans (s1 i (n1 - 1) (by omega) (by omega)) (Int.le_trans hh (s2 _ _ (by omega) j1 j2))
        · rw [ei]
          exact s2 _ _ i1 (by omega) j2
      refine ⟨pP, ⟨f.2, pS, RS⟩, fun x hx y hy => ?_⟩
      obtain ⟨p, hp', rfl⟩ := List.mem_map.mp hx
      obtain ⟨i, i1, ei⟩ := inP p hp'
      rw [ei]
      rw [List.mem_append] at hy
      rcases hy with hy | hy
      · obtain ⟨q, hq', rfl⟩ := List.mem_map.mp hy
        rcases inR q hq' with ⟨j, j1, j2, ej⟩ | ⟨j, j1, j2, ej⟩
        · rw [ej]; exact s1 _ _ (by omega) j2
        · rw [ej]; exact Int.le_trans (lowK i i1) (s2 _ _ (Nat.le_refl _) j1 (by omega))
      · obtain ⟨q, hq', rfl⟩ := List.mem_map.mp hy
        obtain ⟨j, j1, j2, ej⟩ := inS q hq'
        rw [ej]
        exact Int.le_trans (lowK i i1) (s2 _ _ (Nat.le_refl _) (by omega) j2)
  by_cases hle : n1 - k ≤ nb
  · rw [if_pos hle]
    refine wpS_bind (wpS_mergeLo (st := setPending st #[(0, n1 + n2, pw)]) hk hX hY sx sy (by omega) (by omega) fst' top' fun R g f => ?_)
    refine wpS_bind (wpS_modify ?_)
    refine wpS_bind (wpS_get ?_)
    refine wpS_pure ?_
    have ef : (failedOf (setArr (setG (setPending st #[(0, n1 + n2, pw)]) g) (R.toList.zipIdx.foldl (fun a x => a.setIfInBounds (0 + k + x.2) x.1) (arrOf st)))).isNone = true := by
      show (failedOf st).isNone = true
      rw [hf]; rfl
    show Q (failedOf (setArr (setG (setPending st #[(0, n1 + n2, pw)]) g) (R.toList.zipIdx.foldl (fun a x => a.setIfInBounds (0 + k + x.2) x.1) (arrOf st)))).isNone _
    rw [ef]
    exact done R g f
  · rw [if_neg hle]
    refine wpS_bind (wpS_mergeHi (st := setPending st #[(0, n1 + n2, pw)]) hk hX hY sx sy (by omega) (by omega) fst' top' fun R g f => ?_)
    refine wpS_bind (wpS_modify ?_)
    refine wpS_bind (wpS_get ?_)
    refine wpS_pure ?_
    have ef : (failedOf (setArr (setG (setPending st #[(0, n1 + n2, pw)]) g) (R.toList.zipIdx.foldl (fun a x => a.setIfInBounds (0 + k + x.2) x.1) (arrOf st)))).isNone = true := by
      show (failedOf st).isNone = true
      rw [hf]; rfl
    show Q (failedOf (setArr (setG (setPending st #[(0, n1 + n2, pw)]) g) (R.toList.zipIdx.foldl (fun a x => a.setIfInBounds (0 + k + x.2) x.1) (arrOf st)))).isNone _
    rw [ef]
    exact done R g f
end
structure SB (a₀ : Array Keyed) (P : Array (Nat × Nat × Nat)) (st : SortSt) : Prop where
  perm : (arrOf st).Perm a₀
  kind : kindOf st = oneType'
  failed : failedOf st = none
  pend : pendingOf st = P
theorem SB.size {a₀ : Array Keyed} {P : Array (Nat × Nat × Nat)} {st : SortSt} (h : SB a₀ P st) : (arrOf st).size = a₀.size := h.perm.size_eq
theorem SB.keys {a₀ : Array Keyed} {P : Array (Nat × Nat × Nat)} {st : SortSt} (h : SB a₀ P st) (h0 : IntKeys a₀) : IntKeys (arrOf st) := fun p hp => h0 p ((Array.perm_iff_toList_perm.mp h.perm).mem_iff.mp hp)
theorem SB.put {a₀ : Array Keyed} {P : Array (Nat × Nat × Nat)} {st : SortSt} (h : SB a₀ P st) {xs : Array Keyed} (hp : xs.Perm (arrOf st)) : SB a₀ P (setArr st xs) := ⟨hp.trans h.perm, h.kind, h.failed, h.pend⟩
noncomputable def SF (xs : Array Keyed) (lo k : Nat) : Prop := ∀ i j, lo ≤ i → i ≤ j → j < lo + k → K xs i ≤ K xs j
section
variable {prog : Program} {w : World} {A : Around} {E : Value → Shared → Prop} {s : Shared} {a₀ : Array Keyed} {P : Array (Nat × Nat × Nat)}
theorem wpS_ltB {st : SortSt} {i j : Nat} {Q : Option Bool → SortSt → Prop} (hB : SB a₀ P st) (h0 : IntKeys a₀) (hi : i < a₀.size) (hj : j < a₀.size)
    (h : Q (some (decide (K (arrOf st) i < K (arrOf st) j))) st) : wpS (model prog w) A E s (ltAt' i j) Q st := by
  have hz := hB.size
  obtain ⟨t, p, e1⟩ := IntKeys.at (hB.keys h0) (show i < (arrOf st).size by omega)
  obtain ⟨u, q, e2⟩ := IntKeys.at (hB.keys h0) (show j < (arrOf st).size by omega)
  exact wpS_ltAt hB.kind e1 e2 h
theorem wpS_binS {st : SortSt} {lo n ok : Nat} {Q : Bool → SortSt → Prop} (h0 : IntKeys a₀) (hn : lo + n ≤ a₀.size) (hok : ok ≤ n) (hB : SB a₀ P st) (hs : SF (arrOf st) lo ok)
    (h : ∀ st', SB a₀ P st' → SF (arrOf st') lo n → (∀ i, i < lo → K (arrOf st') i = K (arrOf st) i) → Q true st') : wpS (model prog w) A E s (binarySort' lo n ok) Q st := by
  rw [binarySort'_eq]
  refine wpS_bind (wpS_mono (wpS_forRange (I := fun k c st' => c = (none, ()) ∧ SB a₀ P st' ∧ SF (arrOf st') lo (min k n) ∧ ∀ i, i < lo → K (arrOf st') i = K (arrOf st) i)
    (Q := fun c st' => c = (none, ()) ∧ SB a₀ P st' ∧ SF (arrOf st') lo n ∧ ∀ i, i < lo → K (arrOf st') i = K (arrOf st) i) ?step ?fin ?init) ?post)
  case post =>
    rintro c st' ⟨rfl, b1, b2, b3⟩
    exact wpS_pure (h st' b1 b2 b3)
  case init =>
    refine ⟨rfl, hB, fun i j hi hij hj => ?_, fun _ _ => rfl⟩
    by_cases h1 : ok = 0
    · have : i = j := by omega
      subst this; exact Int.le_refl _
    · exact hs i j hi hij (by omega)
  case fin =>
    rintro c st' ⟨b0, b1, b2, b3⟩
    refine ⟨b0, b1, ?_, b3⟩
    rwa [show min (max (max ok 1) n) n = n by omega] at b2
  case step =>
    rintro k c st' hak hkn ⟨rfl, b1, b2, b3⟩
    rw [show min k n = k by omega] at b2
    refine wpS_bind (wpS_mono (wpS_forRange (I := fun x c st'' => st'' = st' ∧ ∃ l r, c = (none, l, r) ∧ l ≤ r ∧ r ≤ k ∧ r - l ≤ k - x ∧
        (∀ i, i < l → K (arrOf st') (lo + i) ≤ K (arrOf st') (lo + k)) ∧ (∀ i, r ≤ i → i < k → K (arrOf st') (lo + k) < K (arrOf st') (lo + i)))
      (Q := fun c st'' => st'' = st' ∧ ∃ l r, c = (none, l, r) ∧ l ≤ k ∧
        (∀ i, i < l → K (arrOf st') (lo + i) ≤ K (arrOf st') (lo + k)) ∧ (∀ i, l ≤ i → i < k → K (arrOf st') (lo + k) < K (arrOf st') (lo + i))) ?istep ?ifin ?iinit) ?ipost)
    case iinit => exact ⟨rfl, 0, k, rfl, by omega, by omega, by omega, fun i hi => by omega, fun i h1 h2 => by omega⟩
    case ifin =>
      rintro c st'' ⟨rfl, l, r, rfl, h1, h2, h3, h4, h5⟩
      have : l = r := by omega
      subst this
      exact ⟨rfl, l, l, rfl, h2, h4, h5⟩
    case istep =>
      rintro x c st'' _ hxk ⟨rfl, l, r, rfl, h1, h2, h3, h4, h5⟩
      dsimp only
      by_cases hge : l ≥ r
      · rw [if_pos hge]
        have : l = r := by omega
        subst this
        exact wpS_pure ⟨rfl, l, l, rfl, h2, h4, h5⟩
      · rw [if_neg hge]
        refine wpS_bind (wpS_ltB b1 h0 (by omega) (by omega) ?_)
        by_cases hl : K (arrOf st'') (lo + k) < K (arrOf st'') (lo + (l + r) / 2)
        · simp only [hl, decide_true, if_true]
          refine wpS_pure ⟨rfl, l, (l + r) / 2, rfl, by omega, by omega, by omega, h4, fun i h6 h7 => ?_⟩
          exact Int.lt_of_lt_of_le hl (b2 _ _ (by omega) (by omega) (by omega))
        · simp only [hl, decide_false, Bool.false_eq_true, if_false]
          refine wpS_pure ⟨rfl, (l + r) / 2 + 1, r, rfl, by omega, by omega, by omega, fun i h6 => ?_, h5⟩
          exact Int.le_trans (b2 (lo + i) (lo + (l + r) / 2) (by omega) (by omega) (by omega)) (Int.not_lt.mp hl)
    case ipost =>
      rintro c st'' ⟨rfl, l, r, rfl, hlk, h4, h5⟩
      show wpS _ _ _ _ (do moveDown' (lo + k) (lo + l); pure (ForInStep.yield (none, ()))) _ _
      rw [moveDown'_eq]
      have hks : lo + k < (arrOf st'').size := by rw [b1.size]; omega
      have kb : ∀ i, K (bubble (arrOf st'') (lo + k) (lo + k - (lo + l))) i = if i = lo + l then K (arrOf st'') (lo + k) else if lo + l < i ∧ i ≤ lo + k then K (arrOf st'') (i - 1) else K (arrOf st'') i := fun i => by
        rw [K_bubble hks (by omega), show lo + k - (lo + k - (lo + l)) = lo + l by omega]
      refine wpS_bind (wpS_modify (wpS_pure ⟨rfl, b1.put (bubble_perm _ _ _), ?_, fun i hi => ?_⟩))
      · rw [show min (k + 1) n = k + 1 by omega]
        intro i j hi hij hj
        show K (bubble (arrOf st'') (lo + k) (lo + k - (lo + l))) i ≤ K (bubble (arrOf st'') (lo + k) (lo + k - (lo + l))) j
        have h4' : ∀ i, lo ≤ i → i < lo + l → K (arrOf st'') i ≤ K (arrOf st'') (lo + k) := fun i z1 z2 => by
          have := h4 (i - lo) (by omega)
          rwa [show lo + (i - lo) = i by omega] at this
        have h5' : ∀ i, lo + l ≤ i → i < lo + k → K (arrOf st'') (lo + k) < K (arrOf st'') i := fun i z1 z2 => by
          have := h5 (i - lo) (by omega) (by omega)
          rwa [show lo + (i - lo) = i by omega] at this
        rw [kb, kb]
        repeat' split
        all_goals first
          | (exfalso; omega)
          | exact Int.le_refl _
          | exact h4' _ (by omega) (by omega)
          | exact Int.le_of_lt (h5' _ (by omega) (by omega))
          | exact b2 _ _ (by omega) (by omega) (by omega)
      · show K (bubble (arrOf st'') (lo + k) (lo + k - (lo + l))) i = _
        rw [kb, if_neg (by omega), if_neg (by omega)]
        exact b3 i hi
end
noncomputable def ND (xs : Array Keyed) (lo k : Nat) : Prop := ∀ i j, lo ≤ i → i ≤ j → j < lo + k → K xs j ≤ K xs i
theorem SF.more {xs : Array Keyed} {lo k : Nat} (h : SF xs lo k) (hk : 1 ≤ k) (e : K xs (lo + k - 1) ≤ K xs (lo + k)) : SF xs lo (k + 1) := fun i j hi hij hj => by
  by_cases z : j < lo + k
  · exact h i j hi hij z
  · have : j = lo + k := by omega
    subst this
    by_cases z2 : i = lo + k
    · subst z2; exact Int.le_refl _
    · exact Int.le_trans (h i (lo + k - 1) hi (by omega) (by omega)) e
theorem ND.more {xs : Array Keyed} {lo k : Nat} (h : ND xs lo k) (hk : 1 ≤ k) (e : K xs (lo + k) ≤ K xs (lo + k - 1)) : ND xs lo (k + 1) := fun i j hi hij hj => by
  by_cases z : j < lo + k
  · exact h i j hi hij z
  · have : j = lo + k := by omega
    subst this
    by_cases z2 : i = lo + k
    · subst z2; exact Int.le_refl _
    · exact Int.le_trans e (h i (lo + k - 1) hi (by omega) (by omega))
section
variable {prog : Program} {w : World} {A : Around} {E : Value → Shared → Prop} {s : Shared} {a₀ : Array Keyed} {P : Array (Nat × Nat × Nat)}
theorem wpS_cntR {st : SortSt} {lo nrem : Nat} {Q : Option Nat → SortSt → Prop} (h0 : IntKeys a₀) (hn : lo + nrem ≤ a₀.size) (h1 : 1 ≤ nrem) (hB : SB a₀ P st)
    (h : ∀ m st', SB a₀ P st' → 1 ≤ m → m ≤ nrem → SF (arrOf st') lo m → (∀ i, i < lo → K (arrOf st') i = K (arrOf st) i) → Q (some m) st') : wpS (model prog w) A E s (countRun' lo nrem) Q st := by
  have one : SF (arrOf st) lo 1 := fun i j hi hij hj => by
    have : i = j := by omega
    subst this; exact Int.le_refl _
  rw [countRun'_eq]
  dsimp only
  refine wpS_bind (wpS_mono (wpS_forRange (I := fun x c st' => st = st' ∧ c = (none, x) ∧ SF (arrOf st) lo x)
    (Q := fun c st' => st = st' ∧ ∃ mm, c = (none, mm) ∧ 1 ≤ mm ∧ mm ≤ nrem ∧ SF (arrOf st) lo mm ∧ (mm = nrem ∨ K (arrOf st) (lo + mm) < K (arrOf st) (lo + mm - 1))) ?_ ?_ ⟨rfl, rfl, one⟩) ?_)
  · rintro x c st9 hax hxn ⟨rfl, rfl, hs⟩
    dsimp only
    refine wpS_bind (wpS_ltB hB h0 (by omega) (by omega) ?_)
    by_cases hl : K (arrOf st) (lo + x) < K (arrOf st) (lo + x - 1)
    · simp only [hl, decide_true, if_true]
      exact wpS_pure ⟨rfl, x, rfl, hax, by omega, hs, .inr hl⟩
    · simp only [hl, decide_false, Bool.false_eq_true, if_false]
      exact wpS_pure ⟨rfl, rfl, SF.more hs (by omega) (Int.not_lt.mp hl)⟩
  · rintro c st9 ⟨rfl, rfl, hs⟩
    rw [show max 1 nrem = nrem by omega] at hs ⊢
    exact ⟨rfl, nrem, rfl, by omega, Nat.le_refl _, hs, .inl rfl⟩
  rintro c st7 ⟨rfl, n, rfl, n1, n2, sn, hor⟩
  dsimp only
  by_cases hnn : n = nrem
  · rw [if_pos (by simpa using hnn)]
    exact wpS_pure (h n _ hB n1 n2 sn fun _ _ => rfl)
  rw [if_neg (by simpa using hnn)]
  have hlt : K (arrOf st) (lo + n) < K (arrOf st) (lo + n - 1) := hor.resolve_left hnn
  by_cases hgt : n > 1
  · rw [if_pos hgt]
    refine wpS_bind (wpS_ltB hB h0 (by omega) (by omega) ?_)
    by_cases hr : K (arrOf st) lo < K (arrOf st) (lo + n - 1)
    · simp only [hr, decide_true, if_true]
      exact wpS_pure (h n _ hB n1 n2 sn fun _ _ => rfl)
    · simp only [hr, decide_false, Bool.false_eq_true, if_false]
      have hsz : lo + n ≤ (arrOf st).size := by rw [hB.size]; omega
      have hall : ∀ k, lo ≤ k → k < lo + n → K (arrOf st) k = K (arrOf st) (lo + n - 1) := fun k k1 k2 => by
        have a1 := sn lo k (Nat.le_refl _) k1 k2
        have a2 := sn k (lo + n - 1) k1 (by omega) (by omega)
        omega
      have ke := K_mirror_equal (i := lo) hsz hall
      refine wpS_bind (wpS_reverse ?_)
      have d1 : SB a₀ P (setArr st (mirror (arrOf st) lo (lo + n) ((lo + n - lo) / 2))) := hB.put (mirror_perm _ _ _ _)
      have d2 : ND (arrOf (setArr st (mirror (arrOf st) lo (lo + n) ((lo + n - lo) / 2)))) lo (n + 1) := fun i j hi hij hj => by
        show K (mirror (arrOf st) _ _ _) j ≤ K (mirror (arrOf st) _ _ _) i
        rw [ke, ke]
        by_cases hjn : j < lo + n
        · rw [hall i hi (by omega), hall j (by omega) hjn]; exact Int.le_refl _
        · have : j = lo + n := by omega
          subst this
          by_cases z2 : i = lo + n
          · subst z2; exact Int.le_refl _
          · rw [hall i hi (by omega)]; exact Int.le_of_lt hlt
      have d3 : ∀ i, i < lo → K (arrOf (setArr st (mirror (arrOf st) lo (lo + n) ((lo + n - lo) / 2)))) i = K (arrOf st) i := fun i hi => ke i
      generalize setArr st (mirror (arrOf st) lo (lo + n) ((lo + n - lo) / 2)) = st3 at d1 d2 d3 ⊢
      refine wpS_bind (wpS_lift (wpAny_rule ⟨rfl, ?_⟩))
      refine wpS_bind (wpS_mono (wpS_forRange (I := fun x c st' => ∃ neq, c = (none, x, neq) ∧ SB a₀ P st' ∧ ND (arrOf st') lo x ∧ neq + 1 ≤ x ∧ (∀ i, lo + x - (neq + 1) ≤ i → i < lo + x → K (arrOf st') i = K (arrOf st') (lo + x - 1)) ∧ ∀ i, i < lo → K (arrOf st') i = K (arrOf st) i)
        (Q := fun c st' => ∃ m neq, c = (none, m, neq) ∧ n + 1 ≤ m ∧ m ≤ nrem ∧ SB a₀ P st' ∧ ND (arrOf st') lo m ∧ neq + 1 ≤ m ∧ (∀ i, lo + m - (neq + 1) ≤ i → i < lo + m → K (arrOf st') i = K (arrOf st') (lo + m - 1)) ∧ ∀ i, i < lo → K (arrOf st') i = K (arrOf st) i) ?_ ?_ ⟨0, rfl, d1, d2, by omega, (fun i h1 h2 => by congr 1; omega), d3⟩) ?_)
      · rintro x c st8 hax hxn ⟨neq, rfl, c1, c2, c3, c4, c5⟩
        dsimp only
        have hsz : lo + x ≤ (arrOf st8).size := by rw [c1.size]; omega
        refine wpS_bind (wpS_ltB c1 h0 (by omega) (by omega) ?_)
        by_cases hl : K (arrOf st8) (lo + x) < K (arrOf st8) (lo + x - 1)
        · simp only [hl, decide_true, if_true]
          by_cases hq : neq > 0
          · rw [if_pos hq]
            have ke := K_mirror_equal (i := lo + x - (neq + 1)) hsz c4
            refine wpS_bind (wpS_reverse (wpS_pure ⟨0, rfl, c1.put (mirror_perm _ _ _ _), ?_, by omega, (fun i h1 h2 => by congr 1; omega), fun i hi => ?_⟩))
            · intro i j hi hij hj
              show K (mirror (arrOf st8) _ _ _) j ≤ K (mirror (arrOf st8) _ _ _) i
              rw [ke, ke]
              exact ND.more c2 (by omega) (Int.le_of_lt hl) i j hi hij hj
            · show K (mirror (arrOf st8) _ _ _) i = _
              rw [ke]
              exact c5 i hi
          · rw [if_neg hq]
            exact wpS_pure ⟨0, rfl, c1, ND.more c2 (by omega) (Int.le_of_lt hl), by omega, (fun i h1 h2 => by congr 1; omega), c5⟩
        · simp only [hl, decide_false, Bool.false_eq_true, if_false]
          refine wpS_bind (wpS_ltB c1 h0 (by omega) (by omega) ?_)
          by_cases hg : K (arrOf st8) (lo + x - 1) < K (arrOf st8) (lo + x)
          · simp only [hg, decide_true, if_true]
            exact wpS_pure ⟨x, neq, rfl, hax, by omega, c1, c2, c3, c4, c5⟩
          · simp only [hg, decide_false, Bool.false_eq_true, if_false]
            have he : K (arrOf st8) (lo + x) = K (arrOf st8) (lo + x - 1) := by omega
            refine wpS_pure ⟨neq + 1, rfl, c1, ND.more c2 (by omega) (Int.le_of_eq he), by omega, (fun i h1 h2 => ?_), c5⟩
            rw [show lo + (x + 1) - 1 = lo + x by omega]
            by_cases hix : i = lo + x
            · rw [hix]
            · rw [he]; exact c4 i (by omega) (by omega)
      · rintro c st8 ⟨neq, rfl, c1, c2, c3, c4, c5⟩
        rw [show max (n + 1) nrem = nrem by omega] at c2 c3 c4 ⊢
        exact ⟨nrem, neq, rfl, by omega, Nat.le_refl _, c1, c2, c3, c4, c5⟩
      rintro c st4 ⟨m, neq, rfl, hm1, hm2, c1, c2, c3, c4, c5⟩
      dsimp only
      by_cases hq : neq > 0
      · rw [if_pos hq]
        have hsz4 : lo + m ≤ (arrOf st4).size := by rw [c1.size]; omega
        have ke := K_mirror_equal (i := lo + m - (neq + 1)) hsz4 c4
        refine wpS_bind (wpS_reverse ?_)
        have d1 : SB a₀ P (setArr st4 (mirror (arrOf st4) (lo + m - (neq + 1)) (lo + m) ((lo + m - (lo + m - (neq + 1))) / 2))) := c1.put (mirror_perm _ _ _ _)
        have d2 : ND (arrOf (setArr st4 (mirror (arrOf st4) (lo + m - (neq + 1)) (lo + m) ((lo + m - (lo + m - (neq + 1))) / 2)))) lo m := fun i j hi hij hj => by
          show K (mirror (arrOf st4) _ _ _) j ≤ K (mirror (arrOf st4) _ _ _) i
          rw [ke, ke]
          exact c2 i j hi hij hj
        have d3 : ∀ i, i < lo → K (arrOf (setArr st4 (mirror (arrOf st4) (lo + m - (neq + 1)) (lo + m) ((lo + m - (lo + m - (neq + 1))) / 2)))) i = K (arrOf st) i := fun i hi => by
          show K (mirror (arrOf st4) _ _ _) i = _
          rw [ke]
          exact c5 i hi
        generalize setArr st4 (mirror (arrOf st4) (lo + m - (neq + 1)) (lo + m) ((lo + m - (lo + m - (neq + 1))) / 2)) = st6 at d1 d2 d3 ⊢
        have hsz : lo + m ≤ (arrOf st6).size := by rw [d1.size]; omega
        refine wpS_bind (wpS_reverse ?_)
        have q1 : SB a₀ P (setArr st6 (mirror (arrOf st6) lo (lo + m) ((lo + m - lo) / 2))) := d1.put (mirror_perm _ _ _ _)
        have q2 : SF (arrOf (setArr st6 (mirror (arrOf st6) lo (lo + m) ((lo + m - lo) / 2)))) lo m := fun i j hi hij hj => by
          show K (mirror (arrOf st6) lo (lo + m) ((lo + m - lo) / 2)) i ≤ K (mirror (arrOf st6) lo (lo + m) ((lo + m - lo) / 2)) j
          rw [K_mirror hsz, K_mirror hsz, if_pos (by omega), if_pos (by omega)]
          exact d2 _ _ (by omega) (by omega) (by omega)
        have q3 : ∀ i, i < lo → K (arrOf (setArr st6 (mirror (arrOf st6) lo (lo + m) ((lo + m - lo) / 2)))) i = K (arrOf st) i := fun i hi => by
          show K (mirror (arrOf st6) lo (lo + m) ((lo + m - lo) / 2)) i = _
          rw [K_mirror hsz, if_neg (by omega)]
          exact d3 i hi
        generalize setArr st6 (mirror (arrOf st6) lo (lo + m) ((lo + m - lo) / 2)) = st5 at q1 q2 q3 ⊢
        refine wpS_bind (wpS_mono (wpS_forRange (I := fun x c st' => st5 = st' ∧ c = (none, x) ∧ SF (arrOf st5) lo x)
          (Q := fun c st' => st5 = st' ∧ ∃ mm, c = (none, mm) ∧ m ≤ mm ∧ mm ≤ nrem ∧ SF (arrOf st5) lo mm ∧ (mm = nrem ∨ K (arrOf st5) (lo + mm) < K (arrOf st5) (lo + mm - 1))) ?_ ?_ ⟨rfl, rfl, q2⟩) ?_)
        · rintro x c st8 hax hxn ⟨rfl, rfl, hs⟩
          dsimp only
          refine wpS_bind (wpS_ltB q1 h0 (by omega) (by omega) ?_)
          by_cases hl : K (arrOf st5) (lo + x) < K (arrOf st5) (lo + x - 1)
          · simp only [hl, decide_true, if_true]
            exact wpS_pure ⟨rfl, x, rfl, hax, by omega, hs, .inr hl⟩
          · simp only [hl, decide_false, Bool.false_eq_true, if_false]
            exact wpS_pure ⟨rfl, rfl, SF.more hs (by omega) (Int.not_lt.mp hl)⟩
        · rintro c st9 ⟨rfl, rfl, hs⟩
          rw [show max m nrem = nrem by omega] at hs ⊢
          exact ⟨rfl, nrem, rfl, by omega, Nat.le_refl _, hs, .inl rfl⟩
        rintro c st9 ⟨rfl, m', rfl, g1, g2, g3, _⟩
        exact wpS_pure (h m' _ q1 (by omega) g2 g3 q3)
      · rw [if_neg hq]
        have hsz : lo + m ≤ (arrOf st4).size := by rw [c1.size]; omega
        refine wpS_bind (wpS_reverse ?_)
        have q1 : SB a₀ P (setArr st4 (mirror (arrOf st4) lo (lo + m) ((lo + m - lo) / 2))) := c1.put (mirror_perm _ _ _ _)
        have q2 : SF (arrOf (setArr st4 (mirror (arrOf st4) lo (lo + m) ((lo + m - lo) / 2)))) lo m := fun i j hi hij hj => by
          show K (mirror (arrOf st4) lo (lo + m) ((lo + m - lo) / 2)) i ≤ K (mirror (arrOf st4) lo (lo + m) ((lo + m - lo) / 2)) j
          rw [K_mirror hsz, K_mirror hsz, if_pos (by omega), if_pos (by omega)]
          exact c2 _ _ (by omega) (by omega) (by omega)
        have q3 : ∀ i, i < lo → K (arrOf (setArr st4 (mirror (arrOf st4) lo (lo + m) ((lo + m - lo) / 2)))) i = K (arrOf st) i := fun i hi => by
          show K (mirror (arrOf st4) lo (lo + m) ((lo + m - lo) / 2)) i = _
          rw [K_mirror hsz, if_neg (by omega)]
          exact c5 i hi
        generalize setArr st4 (mirror (arrOf st4) lo (lo + m) ((lo + m - lo) / 2)) = st5 at q1 q2 q3 ⊢
        refine wpS_bind (wpS_mono (wpS_forRange (I := fun x c st' => st5 = st' ∧ c = (none, x) ∧ SF (arrOf st5) lo x)
          (Q := fun c st' => st5 = st' ∧ ∃ mm, c = (none, mm) ∧ m ≤ mm ∧ mm ≤ nrem ∧ SF (arrOf st5) lo mm ∧ (mm = nrem ∨ K (arrOf st5) (lo + mm) < K (arrOf st5) (lo + mm - 1))) ?_ ?_ ⟨rfl, rfl, q2⟩) ?_)
        · rintro x c st8 hax hxn ⟨rfl, rfl, hs⟩
          dsimp only
          refine wpS_bind (wpS_ltB q1 h0 (by omega) (by omega) ?_)
          by_cases hl : K (arrOf st5) (lo + x) < K (arrOf st5) (lo + x - 1)
          · simp only [hl, decide_true, if_true]
            exact wpS_pure ⟨rfl, x, rfl, hax, by omega, hs, .inr hl⟩
          · simp only [hl, decide_false, Bool.false_eq_true, if_false]
            exact wpS_pure ⟨rfl, rfl, SF.more hs (by omega) (Int.not_lt.mp hl)⟩
        · rintro c st9 ⟨rfl, rfl, hs⟩
          rw [show max m nrem = nrem by omega] at hs ⊢
          exact ⟨rfl, nrem, rfl, by omega, Nat.le_refl _, hs, .inl rfl⟩
        rintro c st9 ⟨rfl, m', rfl, g1, g2, g3, _⟩
        exact wpS_pure (h m' _ q1 (by omega) g2 g3 q3)
  · rw [if_neg hgt]
    have e1 : n = 1 := by omega
    subst e1
    have nd1 : ND (arrOf st) lo 1 := fun i j hi hij hj => by
      have e9 : i = j := by omega
      subst e9
      exact Int.le_refl _
    have nd : ND (arrOf st) lo (1 + 1) := ND.more nd1 (by omega) (Int.le_of_lt hlt)
    refine wpS_bind (wpS_lift (wpAny_rule ⟨rfl, ?_⟩))
    refine wpS_bind (wpS_mono (wpS_forRange (I := fun x c st' => ∃ neq, c = (none, x, neq) ∧ SB a₀ P st' ∧ ND (arrOf st') lo x ∧ neq + 1 ≤ x ∧ (∀ i, lo + x - (neq + 1) ≤ i → i < lo + x → K (arrOf st') i = K (arrOf st') (lo + x - 1)) ∧ ∀ i, i < lo → K (arrOf st') i = K (arrOf st) i)
      (Q := fun c st' => ∃ m neq, c = (none, m, neq) ∧ 1 + 1 ≤ m ∧ m ≤ nrem ∧ SB a₀ P st' ∧ ND (arrOf st') lo m ∧ neq + 1 ≤ m ∧ (∀ i, lo + m - (neq + 1) ≤ i → i < lo + m → K (arrOf st') i = K (arrOf st') (lo + m - 1)) ∧ ∀ i, i < lo → K (arrOf st') i = K (arrOf st) i) ?_ ?_ ⟨0, rfl, hB, nd, by omega, (fun i h1 h2 => by congr 1; omega), (fun _ _ => rfl)⟩) ?_)
    · rintro x c st8 hax hxn ⟨neq, rfl, c1, c2, c3, c4, c5⟩
      dsimp only
      have hsz : lo + x ≤ (arrOf st8).size := by rw [c1.size]; omega
      refine wpS_bind (wpS_ltB c1 h0 (by omega) (by omega) ?_)
      by_cases hl : K (arrOf st8) (lo + x) < K (arrOf st8) (lo + x - 1)
      · simp only [hl, decide_true, if_true]
        by_cases hq : neq > 0
        · rw [if_pos hq]
          have ke := K_mirror_equal (i := lo + x - (neq + 1)) hsz c4
          refine wpS_bind (wpS_reverse (wpS_pure ⟨0, rfl, c1.put (mirror_perm _ _ _ _), ?_, by omega, (fun i h1 h2 => by congr 1; omega), fun i hi => ?_⟩))
          · intro i j hi hij hj
            show K (mirror (arrOf st8) _ _ _) j ≤ K (mirror (arrOf st8) _ _ _) i
            rw [ke, ke]
            exact ND.more c2 (by omega) (Int.le_of_lt hl) i j hi hij hj
          · show K (mirror (arrOf st8) _ _ _) i = _
            rw [ke]
            exact c5 i hi
        · rw [if_neg hq]
          exact wpS_pure ⟨0, rfl, c1, ND.more c2 (by omega) (Int.le_of_lt hl), by omega, (fun i h1 h2 => by congr 1; omega), c5⟩
      · simp only [hl, decide_false, Bool.false_eq_true, if_false]
        refine wpS_bind (wpS_ltB c1 h0 (by omega) (by omega) ?_)
        by_cases hg : K (arrOf st8) (lo + x - 1) < K (arrOf st8) (lo + x)
        · simp only [hg, decide_true, if_true]
          exact wpS_pure ⟨x, neq, rfl, hax, by omega, c1, c2, c3, c4, c5⟩
        · simp only [hg, decide_false, Bool.false_eq_true, if_false]
          have he : K (arrOf st8) (lo + x) = K (arrOf st8) (lo + x - 1) := by omega
          refine wpS_pure ⟨neq + 1, rfl, c1, ND.more c2 (by omega) (Int.le_of_eq he), by omega, (fun i h1 h2 => ?_), c5⟩
          rw [show lo + (x + 1) - 1 = lo + x by omega]
          by_cases hix : i = lo + x
          · rw [hix]
          · rw [he]; exact c4 i (by omega) (by omega)
    · rintro c st8 ⟨neq, rfl, c1, c2, c3, c4, c5⟩
      rw [show max (1 + 1) nrem = nrem by omega] at c2 c3 c4 ⊢
      exact ⟨nrem, neq, rfl, by omega, Nat.le_refl _, c1, c2, c3, c4, c5⟩
    rintro c st4 ⟨m, neq, rfl, hm1, hm2, c1, c2, c3, c4, c5⟩
    dsimp only
    by_cases hq : neq > 0
    · rw [if_pos hq]
      have hsz4 : lo + m ≤ (arrOf st4).size := by rw [c1.size]; omega
      have ke := K_mirror_equal (i := lo + m - (neq + 1)) hsz4 c4
      refine wpS_bind (wpS_reverse ?_)
      have d1 : SB a₀ P (setArr st4 (mirror (arrOf st4) (lo + m - (neq + 1)) (lo + m) ((lo + m - (lo + m - (neq + 1))) / 2))) := c1.put (mirror_perm _ _ _ _)
      have d2 : ND (arrOf (setArr st4 (mirror (arrOf st4) (lo + m - (neq + 1)) (lo + m) ((lo + m - (lo + m - (neq + 1))) / 2)))) lo m := fun i j hi hij hj => by
        show K (mirror (arrOf st4) _ _ _) j ≤ K (mirror (arrOf st4) _ _ _) i
        rw [ke, ke]
        exact c2 i j hi hij hj
      have d3 : ∀ i, i < lo → K (arrOf (setArr st4 (mirror (arrOf st4) (lo + m - (neq + 1)) (lo + m) ((lo + m - (lo + m - (neq + 1))) / 2)))) i = K (arrOf st) i := fun i hi => by
        show K (mirror (arrOf st4) _ _ _) i = _
        rw [ke]
        exact c5 i hi
      generalize setArr st4 (mirror (arrOf st4) (lo + m - (neq + 1)) (lo + m) ((lo + m - (lo + m - (neq + 1))) / 2)) = st6 at d1 d2 d3 ⊢
      have hsz : lo + m ≤ (arrOf st6).size := by rw [d1.size]; omega
      refine wpS_bind (wpS_reverse ?_)
      have q1 : SB a₀ P (setArr st6 (mirror (arrOf st6) lo (lo + m) ((lo + m - lo) / 2))) := d1.put (mirror_perm _ _ _ _)
      have q2 : SF (arrOf (setArr st6 (mirror (arrOf st6) lo (lo + m) ((lo + m - lo) / 2)))) lo m := fun i j hi hij hj => by
        show K (mirror (arrOf st6) lo (lo + m) ((lo + m - lo) / 2)) i ≤ K (mirror (arrOf st6) lo (lo + m) ((lo + m - lo) / 2)) j
        rw [K_mirror hsz, K_mirror hsz, if_pos (by omega), if_pos (by omega)]
        exact d2 _ _ (by omega) (by omega) (by omega)
      have q3 : ∀ i, i < lo → K (arrOf (setArr st6 (mirror (arrOf st6) lo (lo + m) ((lo + m - lo) / 2)))) i = K (arrOf st) i := fun i hi => by
        show K (mirror (arrOf st6) lo (lo + m) ((lo + m - lo) / 2)) i = _
        rw [K_mirror hsz, if_neg (by omega)]
        exact d3 i hi
      generalize setArr st6 (mirror (arrOf st6) lo (lo + m) ((lo + m - lo) / 2)) = st5 at q1 q2 q3 ⊢
      refine wpS_bind (wpS_mono (wpS_forRange (I := fun x c st' => st5 = st' ∧ c = (none, x) ∧ SF (arrOf st5) lo x)
        (Q := fun c st' => st5 = st' ∧ ∃ mm, c = (none, mm) ∧ m ≤ mm ∧ mm ≤ nrem ∧ SF (arrOf st5) lo mm ∧ (mm = nrem ∨ K (arrOf st5) (lo + mm) < K (arrOf st5) (lo + mm - 1))) ?_ ?_ ⟨rfl, rfl, q2⟩) ?_)
      · rintro x c st8 hax hxn ⟨rfl, rfl, hs⟩
        dsimp only
        refine wpS_bind (wpS_ltB q1 h0 (by omega) (by omega) ?_)
        by_cases hl : K (arrOf st5) (lo + x) < K (arrOf st5) (lo + x - 1)
        · simp only [hl, decide_true, if_true]
          exact wpS_pure ⟨rfl, x, rfl, hax, by omega, hs, .inr hl⟩
        · simp only [hl, decide_false, Bool.false_eq_true, if_false]
          exact wpS_pure ⟨rfl, rfl, SF.more hs (by omega) (Int.not_lt.mp hl)⟩
      · rintro c st9 ⟨rfl, rfl, hs⟩
        rw [show max m nrem = nrem by omega] at hs ⊢
        exact ⟨rfl, nrem, rfl, by omega, Nat.le_refl _, hs, .inl rfl⟩
      rintro c st9 ⟨rfl, m', rfl, g1, g2, g3, _⟩
      exact wpS_pure (h m' _ q1 (by omega) g2 g3 q3)
    · rw [if_neg hq]
      have hsz : lo + m ≤ (arrOf st4).size := by rw [c1.size]; omega
      refine wpS_bind (wpS_reverse ?_)
      have q1 : SB a₀ P (setArr st4 (mirror (arrOf st4) lo (lo + m) ((lo + m - lo) / 2))) := c1.put (mirror_perm _ _ _ _)
      have q2 : SF (arrOf (setArr st4 (mirror (arrOf st4) lo (lo + m) ((lo + m - lo) / 2)))) lo m := fun i j hi hij hj => by
        show K (mirror (arrOf st4) lo (lo + m) ((lo + m - lo) / 2)) i ≤ K (mirror (arrOf st4) lo (lo + m) ((lo + m - lo) / 2)) j
        rw [K_mirror hsz, K_mirror hsz, if_pos (by omega), if_pos (by omega)]
        exact c2 _ _ (by omega) (by omega) (by omega)
      have q3 : ∀ i, i < lo → K (arrOf (setArr st4 (mirror (arrOf st4) lo (lo + m) ((lo + m - lo) / 2)))) i = K (arrOf st) i := fun i hi => by
        show K (mirror (arrOf st4) lo (lo + m) ((lo + m - lo) / 2)) i = _
        rw [K_mirror hsz, if_neg (by omega)]
        exact c5 i hi
      generalize setArr st4 (mirror (arrOf st4) lo (lo + m) ((lo + m - lo) / 2)) = st5 at q1 q2 q3 ⊢
      refine wpS_bind (wpS_mono (wpS_forRange (I := fun x c st' => st5 = st' ∧ c = (none, x) ∧ SF (arrOf st5) lo x)
        (Q := fun c st' => st5 = st' ∧ ∃ mm, c = (none, mm) ∧ m ≤ mm ∧ mm ≤ nrem ∧ SF (arrOf st5) lo mm ∧ (mm = nrem ∨ K (arrOf st5) (lo + mm) < K (arrOf st5) (lo + mm - 1))) ?_ ?_ ⟨rfl, rfl, q2⟩) ?_)
      · rintro x c st8 hax hxn ⟨rfl, rfl, hs⟩
        dsimp only
        refine wpS_bind (wpS_ltB q1 h0 (by omega) (by omega) ?_)
        by_cases hl : K (arrOf st5) (lo + x) < K (arrOf st5) (lo + x - 1)
        · simp only [hl, decide_true, if_true]
          exact wpS_pure ⟨rfl, x, rfl, hax, by omega, hs, .inr hl⟩
        · simp only [hl, decide_false, Bool.false_eq_true, if_false]
          exact wpS_pure ⟨rfl, rfl, SF.more hs (by omega) (Int.not_lt.mp hl)⟩
      · rintro c st9 ⟨rfl, rfl, hs⟩
        rw [show max m nrem = nrem by omega] at hs ⊢
        exact ⟨rfl, nrem, rfl, by omega, Nat.le_refl _, hs, .inl rfl⟩
      rintro c st9 ⟨rfl, m', rfl, g1, g2, g3, _⟩
      exact wpS_pure (h m' _ q1 (by omega) g2 g3 q3)
end
section
variable {prog : Program} {w : World} {A : Around} {E : Value → Shared → Prop} {s : Shared} {a₀ : Array Keyed}
theorem SB.pending {P P' : Array (Nat × Nat × Nat)} {st : SortSt} (h : SB a₀ P st) : SB a₀ P' (setPending st P') := ⟨h.perm, h.kind, h.failed, rfl⟩
noncomputable def Two (a₀ : Array Keyed) (st : SortSt) : Prop := (SB a₀ #[(0, a₀.size, 0)] st ∧ SF (arrOf st) 0 a₀.size) ∨ ∃ n1 n2 pw, SB a₀ #[(0, n1, pw), (n1, n2, 0)] st ∧ n1 + n2 = a₀.size ∧ 1 ≤ n1 ∧ 1 ≤ n2 ∧ SF (arrOf st) 0 n1 ∧ SF (arrOf st) n1 n2
theorem wpS_runs {st : SortSt} {Q : Unit → SortSt → Prop} (h0 : IntKeys a₀) (hB : SB a₀ #[] st) (h64 : 64 ≤ a₀.size) (h128 : a₀.size < 128)
    (h : ∀ st', (arrOf st').Perm a₀ → failedOf st' = none → SortedTo (arrOf st') a₀.size → Q () st') : wpS (model prog w) A E s sortRuns' Q st := by
  rw [sortRuns'_eq]
  refine wpS_bind (wpS_get ?_)
  dsimp only
  have hmr : minRun' a₀.size a₀.size 0 = a₀.size / 2 + a₀.size % 2 := by
    obtain ⟨f, hf⟩ : ∃ f, a₀.size = f + 1 + 1 := ⟨a₀.size - 2, by omega⟩
    have : minRun' (f + 1 + 1) a₀.size 0 = a₀.size / 2 + a₀.size % 2 := by
      rw [minRun'_succ, if_neg (by omega), minRun'_succ, if_pos (by omega), Nat.max_eq_right (Nat.zero_le _)]
    rwa [← hf] at this
  simp only [hB.size, hmr]
  refine wpS_bind (wpS_mono (wpS_forRange
    (I := fun x c st' => (x = 0 ∧ c = (none, 0) ∧ SB a₀ #[] st') ∨ (x = 1 ∧ ∃ n, c = (none, n) ∧ a₀.size / 2 + a₀.size % 2 ≤ n ∧ n < a₀.size ∧ SB a₀ #[(0, n, 0)] st' ∧ SF (arrOf st') 0 n) ∨ (1 ≤ x ∧ c = (none, a₀.size) ∧ Two a₀ st'))
    (Q := fun c st' => c = (none, a₀.size) ∧ Two a₀ st') ?step ?fin (.inl ⟨rfl, rfl, hB⟩)) ?post)
  case fin =>
    rintro c st' (⟨hx, _⟩ | ⟨hx, _⟩ | ⟨_, hc, hD⟩)
    · omega
    · omega
    · exact ⟨hc, hD⟩
  case step =>
    rintro x c st' _ hx (⟨rfl, rfl, b⟩ | ⟨rfl, n, rfl, n1, n2, b, sf⟩ | ⟨hx1, rfl, hD⟩)
    · dsimp only
      rw [if_neg (by omega)]
      simp only [Nat.sub_zero, Nat.zero_add]
      refine wpS_bind (wpS_cntR h0 (by omega) (by omega) b fun m st2 b2 m1 m2 sf2 _ => ?_)
      dsimp only
      have go : ∀ (n : Nat) (st3 : SortSt), a₀.size / 2 + a₀.size % 2 ≤ n → n ≤ a₀.size → SB a₀ #[] st3 → SF (arrOf st3) 0 n →
          ((1 = 0 ∧ ((none : Option Unit), n) = (none, 0) ∧ SB a₀ #[] (setPending st3 ((pendingOf st3).push (0, n, 0)))) ∨ (True ∧ ∃ n', ((none : Option Unit), n) = (none, n') ∧ a₀.size / 2 + a₀.size % 2 ≤ n' ∧ n' < a₀.size ∧ SB a₀ #[(0, n', 0)] (setPending st3 ((pendingOf st3).push (0, n, 0))) ∧ SF (arrOf (setPending st3 ((pendingOf st3).push (0, n, 0)))) 0 n') ∨ (1 ≤ 1 ∧ ((none : Option Unit), n) = (none, a₀.size) ∧ Two a₀ (setPending st3 ((pendingOf st3).push (0, n, 0))))) := by
        intro n st3 g1 g2 g3 g4
        have ep : (pendingOf st3).push (0, n, 0) = #[(0, n, 0)] := by rw [g3.pend]; rfl
        rw [ep]
        by_cases z : n = a₀.size
        · exact .inr (.inr ⟨Nat.le_refl _, by rw [z], .inl ⟨by rw [← z]; exact g3.pending, by rw [← z]; exact g4⟩⟩)
        · exact .inr (.inl ⟨trivial, n, rfl, g1, by omega, g3.pending, g4⟩)
      by_cases hlt : m < a₀.size / 2 + a₀.size % 2
      · rw [if_pos hlt]
        refine wpS_bind (wpS_lift (wpAny_rule ⟨rfl, ?_⟩))
        refine wpS_bind (wpS_binS h0 (by omega) (by omega) b2 sf2 fun st3 b3 sf3 _ => ?_)
        simp only [Bool.not_true, Bool.false_eq_true, if_false]
        refine wpS_bind (wpS_get ?_)
        have hb : (pendingOf st3).back? = none := by rw [b3.pend]; rfl
        rw [hb]
        dsimp only
        exact wpS_bind (wpS_modify (wpS_pure (go _ st3 (by omega) (by omega) b3 sf3)))
      · rw [if_neg hlt]
        refine wpS_bind (wpS_get ?_)
        have hb : (pendingOf st2).back? = none := by rw [b2.pend]; rfl
        rw [hb]
        dsimp only
        exact wpS_bind (wpS_modify (wpS_pure (go _ st2 (by omega) m2 b2 sf2)))
    · dsimp only
      rw [if_neg (by omega)]
      refine wpS_bind (wpS_cntR h0 (by omega) (by omega) b fun m st2 b2 m1 m2 sf2 pre2 => ?_)
      dsimp only
      have keep : ∀ st3 : SortSt, (∀ i, i < n → K (arrOf st3) i = K (arrOf st') i) → SF (arrOf st3) 0 n := fun st3 hp i j hi hij hj => by
        rw [hp i (by omega), hp j (by omega)]
        exact sf i j hi hij hj
      by_cases hlt : m < a₀.size / 2 + a₀.size % 2
      · rw [if_pos hlt]
        refine wpS_bind (wpS_lift (wpAny_rule ⟨rfl, ?_⟩))
        rw [show min (a₀.size - n) (a₀.size / 2 + a₀.size % 2) = a₀.size - n by omega]
        refine wpS_bind (wpS_binS h0 (by omega) (by omega) b2 sf2 fun st3 b3 sf3 pre3 => ?_)
        simp only [Bool.not_true, Bool.false_eq_true, if_false]
        refine wpS_bind (wpS_get ?_)
        have hb : (pendingOf st3).back? = some (0, n, 0) := by rw [b3.pend]; rfl
        rw [hb]
        dsimp only
        refine wpS_bind (wpS_mono (wpS_forRange (I := fun _ c st'' => st3 = st'' ∧ c = (none, ())) (Q := fun c st'' => st3 = st'' ∧ c = (none, ())) ?_ (fun _ _ hh => hh) ⟨rfl, rfl⟩) ?_)
        · rintro y c st'' _ _ ⟨rfl, rfl⟩
          refine wpS_bind (wpS_get ?_)
          skip
          rw [b3.pend]
          exact wpS_pure ⟨rfl, rfl⟩
        · rintro c st'' ⟨rfl, rfl⟩
          dsimp only
          refine wpS_bind (wpS_modify ?_)
          refine wpS_bind (wpS_modify ?_)
          refine wpS_pure (.inr (.inr ⟨by omega, (by congr 1; omega), .inr ⟨n, a₀.size - n, power' a₀.size (2 * 0 + n) (2 * 0 + n + n + (a₀.size - n)) a₀.size, ⟨b3.perm, b3.kind, b3.failed, ?_⟩, by omega, by omega, by omega, keep st3 (fun i hi => (pre3 i hi).trans (pre2 i hi)), sf3⟩⟩))
          show ((pendingOf st3).modify ((pendingOf st3).size - 1) _).push (n, _, 0) = _
          rw [b3.pend]
          first | rfl | simp [Array.modify] | (apply Array.ext'; simp [Array.modify])
      · rw [if_neg hlt]
        have em : m = a₀.size - n := by omega
        subst em
        refine wpS_bind (wpS_get ?_)
        have hb : (pendingOf st2).back? = some (0, n, 0) := by rw [b2.pend]; rfl
        rw [hb]
        dsimp only
        refine wpS_bind (wpS_mono (wpS_forRange (I := fun _ c st'' => st2 = st'' ∧ c = (none, ())) (Q := fun c st'' => st2 = st'' ∧ c = (none, ())) ?_ (fun _ _ hh => hh) ⟨rfl, rfl⟩) ?_)
        · rintro y c st'' _ _ ⟨rfl, rfl⟩
          refine wpS_bind (wpS_get ?_)
          skip
          rw [b2.pend]
          exact wpS_pure ⟨rfl, rfl⟩
        · rintro c st'' ⟨rfl, rfl⟩
          dsimp only
          refine wpS_bind (wpS_modify ?_)
          refine wpS_bind (wpS_modify ?_)
          refine wpS_pure (.inr (.inr ⟨by omega, (by congr 1; omega), .inr ⟨n, a₀.size - n, power' a₀.size (2 * 0 + n) (2 * 0 + n + n + (a₀.size - n)) a₀.size, ⟨b2.perm, b2.kind, b2.failed, ?_⟩, by omega, by omega, by omega, keep st2 pre2, sf2⟩⟩))
          show ((pendingOf st2).modify ((pendingOf st2).size - 1) _).push (n, _, 0) = _
          rw [b2.pend]
          first | rfl | simp [Array.modify] | (apply Array.ext'; simp [Array.modify])
    · dsimp only
      rw [if_pos (Nat.le_refl _)]
      exact wpS_pure ⟨rfl, hD⟩
  case post =>
    rintro c st' ⟨rfl, hD⟩
    dsimp only
    refine wpS_bind (wpS_mono (wpS_forRange (I := fun y c st'' => c = (none, ()) ∧ ((y = 0 ∧ Two a₀ st'') ∨ ((arrOf st'').Perm a₀ ∧ failedOf st'' = none ∧ (pendingOf st'').size ≤ 1 ∧ SortedTo (arrOf st'') a₀.size)))
      (Q := fun c st'' => c = (none, ()) ∧ (arrOf st'').Perm a₀ ∧ failedOf st'' = none ∧ SortedTo (arrOf st'') a₀.size) ?_ ?_ ⟨rfl, .inl ⟨rfl, hD⟩⟩) ?_)
    · rintro y c st'' _ _ ⟨rfl, ⟨rfl, hD⟩ | ⟨q1, q2, q3, q4⟩⟩
      · refine wpS_bind (wpS_get ?_)
        skip
        rcases hD with ⟨b, sf⟩ | ⟨n1, n2, pw, b, e, g1, g2, s1, s2⟩
        · rw [if_pos (by rw [b.pend]; exact Nat.le_refl 1)]
          exact wpS_pure ⟨rfl, b.perm, b.failed, fun i j hij hj => sf i j (Nat.zero_le _) hij (by omega)⟩
        · rw [if_neg (by rw [b.pend]; simp)]
          rw [b.pend]
          refine wpS_bind (wpS_mergeAt b.kind (b.keys h0) b.failed b.pend (by rw [b.size]; omega) g1 g2 (fun i j hij hj => s1 i j (Nat.zero_le _) hij (by omega)) (fun i j hi hij hj => s2 i j hi hij hj) fun st5 f5 p5 pm5 so5 => ?_)
          refine wpS_pure ⟨rfl, .inr ⟨pm5.trans b.perm, f5, by rw [p5]; exact Nat.le_refl 1, fun i j hij hj => so5 i j hij (by rw [pm5.size_eq, b.size]; exact hj)⟩⟩
      · refine wpS_bind (wpS_get ?_)
        skip
        rw [if_pos q3]
        exact wpS_pure ⟨rfl, q1, q2, q4⟩
    · rintro c st'' ⟨rfl, ⟨hy, _⟩ | ⟨q1, q2, q3, q4⟩⟩
      · omega
      · exact ⟨rfl, q1, q2, q4⟩
    · rintro c st'' ⟨rfl, q1, q2, q4⟩
      exact wpS_pure (h _ q1 q2 q4)
end
section
variable {prog : Program} {w : World} {A : Around} {E : Value → Shared → Prop} {s : Shared}
theorem sort_far {c : Addr} {us : List Value} {ks : List Int} {m : Nat} {P : PySem.Fin → Shared → Prop} (hc : s.heap.get? c = some (seqObj "list" us.toArray m)) (hu : IntsAre us ks) (l1 : 64 ≤ us.length) (l2 : us.length < 128)
    (q : ∀ (out : Array Value) (js : List Int), IntsAre out.toList js → js.Perm ks → js.Pairwise (· ≤ ·) → P (.done (.ret .none)) { s with heap := sortedHeap s.heap c us out }) : wpAny (model prog w) A (Builtin.«list.sort» ⟨[.ref c], []⟩) P E s := by
  have hlt : c < s.heap.objs.size := Heap.lt_size hc
  have hn : us.toArray.size = us.length := by simp
  obtain ⟨e, h1⟩ : ∃ e, (s.heap.update c (Obj.mapSeq fun _ => #[])).get? c = some (seqObj "list" #[] e) := ⟨_, get?_update_seq hc _⟩
  have h2 : (((s.heap.update c (Obj.mapSeq fun _ => #[])).push (seqObj "tuple" us.toArray 0)).push (seqObj "list" #[] 0)).get? c = some (seqObj "list" #[] e) := Heap.get?_push_of_some _ (Heap.get?_push_of_some _ h1)
  have hz1 : us.length ≤ sizeLine := by rw [sizeLine_eq]; omega
  rw [list_sort_plain]
  refine wpAny_bind (listItems_at hc rfl (wpAny_bind (listUpdate_at hc rfl (wpAny_bind (seqEpoch_at h1 rfl (wpAny_bind (wpAny_newTuple (wpAny_bind (wpAny_newList (wpAny_holding ?_) (Nat.zero_le _))) hz1)))) (by rw [List.size_toArray]; exact hz1) (Nat.zero_le _))))
  show wpAny (model prog w) A _ P E { s with heap := ((s.heap.update c (Obj.mapSeq fun _ => #[])).push (seqObj "tuple" us.toArray 0)).push (seqObj "list" #[] 0) }
  have b2 : ¬ us.toArray.size < 2 := by omega
  dsimp only
  rw [if_neg b2, if_neg b2]
  obtain ⟨u1, u2, ut, rfl⟩ : ∃ u1 u2 ut, us = u1 :: u2 :: ut := by
    match us, l1 with
    | u1 :: u2 :: ut, _ => exact ⟨u1, u2, ut, rfl⟩
  rw [keyKind_ints hu]
  refine wpAny_bind (wpAny_pure (wpAny_bind (wpAny_mono (wpS_runs (a₀ := pairsOf (u1 :: u2 :: ut)) (Q := fun _ z => (arrOf z).Perm (pairsOf (u1 :: u2 :: ut)) ∧ failedOf z = none ∧ SortedTo (arrOf z) (pairsOf (u1 :: u2 :: ut)).size)
    hu.intKeys ⟨Array.Perm.refl _, rfl, rfl, rfl⟩ (by rw [pairsOf_size]; exact l1) (by rw [pairsOf_size]; exact l2) fun z z1 z2 z3 => ⟨z1, z2, z3⟩) ?_ fun _ _ x => x)))
  rintro ⟨⟨⟩, z⟩ s' ⟨rfl, z1, z2, z3⟩
  obtain ⟨js, j1, j2, j3⟩ := sorted_out hu z1 z3
  have hz : ((arrOf z).map (·.2)).size ≤ sizeLine + 1 := by
    rw [Array.size_map, z1.size_eq, pairsOf_size, sizeLine_eq]
    omega
  dsimp only
  refine wpAny_bind (seqEpoch_at h2 rfl (wpAny_bind (listUpdate_at h2 rfl ?_ (hsz2 := hz))))
  rw [z2]
  simp only [bne_self_eq_false, Bool.false_eq_true, if_false]
  exact wpAny_pure (q _ js j1 j2 j3)
theorem sorted_far {c : Addr} {us : List Value} {ks : List Int} {Q : Value → Shared → Prop} (hc : s.heap.IsList c us.toArray) (hu : IntsAre us ks) (l1 : 64 ≤ us.length) (l2 : us.length < 128)
    (q : ∀ (out : Array Value) (js : List Int), IntsAre out.toList js → js.Perm ks → js.Pairwise (· ≤ ·) → Q (.ref (s.heap.objs.size + 1)) { s with heap := sortedAll s.heap us out }) : wpAny (model prog w) A (call (.builtin "sorted") [.ref c]) Q E s := by
  have hn : ((s.heap.push (seqObj "list" #[] 0)).update s.heap.objs.size (Obj.mapSeq (· ++ us.toArray))).objs.size = s.heap.objs.size + 1 := (Heap.size_update _ _ _).trans (size_push' _ _)
  have hL := hn ▸ Heap.get?_push_size ((s.heap.push (seqObj "list" #[] 0)).update s.heap.objs.size (Obj.mapSeq (· ++ us.toArray))) (o := seqObj "list" us.toArray 0) rfl
  refine Calls.call_function_entry kind_sorted plain_sorted entry_sorted (args_sorted1 _) ?_
  unfold Builtin.«sorted»
  have hz1 : us.length ≤ sizeLine := by rw [sizeLine_eq]; omega
  refine wpAny_bind (m := checkCount "sorted" 1 1 _) (wpAny_pure (wpAny_bind (collect_list hc (wpAny_bind (wpAny_newList ?_ hz1)) hz1)))
  show wpAny _ _ _ _ _ { s with heap := ((s.heap.push (seqObj "list" #[] 0)).update s.heap.objs.size (Obj.mapSeq (· ++ us.toArray))).push (seqObj "list" us.toArray 0) }
  rw [hn]
  exact wpAny_bind (wpAny_holding (wpAny_call_entry slot_list_sort ⟨_, hL, rfl⟩ entry_list_sort (sort_far hL hu l1 l2 fun out js a1 a2 a3 => ⟨_, rfl, wpAny_pure ⟨_, rfl, q out js a1 a2 a3⟩⟩) (args_list_sort _)))
end
end Lg
namespace L2
open PySem PySem.Spec PyProof.Rows
theorem call_sortedN {X : Cx} : CallR X (.builtin "sorted") (fun xs H Q => ∃ (p : Addr) (ns : List Int), xs = [.ref p] ∧ SqL X.K H p (ns.map V.int) ∧ ns.length < 128 ∧ ∀ (q : Addr) (ms : List Int), H q = none → ms.Perm ns → ms.Pairwise (· ≤ ·) → Q (.ref q) (upd H q (.lst (ms.map V.int)))) := by
  intro pins s σ H xs us Q I r h
  obtain ⟨p, ns, rfl, hl, h2, q⟩ := h
  by_cases h64 : ns.length < 64
  · exact call_sorted pins s σ H _ us Q I r ⟨p, ns, rfl, hl, h64, q⟩
  obtain ⟨u, rfl, ru⟩ := vals1 r
  cases ru
  obtain ⟨its, r', pl, hz⟩ := I.list hl
  have hi : IntsAre its ns := intsAre_of r'
  refine Lg.sorted_far pl.isList hi (by rw [hi.length]; omega) (by rw [hi.length]; exact h2) fun out ms ho hp hs => ?_
  obtain ⟨e, he⟩ := sortedAll_at s.heap its out
  have lm : (ms.map V.int).length ≤ sizeLine := by rw [List.length_map, hp.length_eq]; exact sz (by omega)
  exact ⟨.ref _, _, I.laid (t' := s.toks) (o := .lst (ms.map V.int)) (fun b u e => sortedAll_old e) (Nat.le_succ _) ⟨lm, out.toList, e, vals_intsA ho, by simpa [seqObj] using he⟩, rfl, q _ ms (I.hok.fresh (Nat.le_succ _)) hp hs⟩
end L2
set_option Elab.async false
set_option linter.all false
set_option maxRecDepth 100000
set_option maxHeartbeats 4000000
namespace L2
open PySem PySem.Spec PyProof.Rows
section
variable {X : Cx} {tg : Expr}
end
section
variable {X : Cx} {a b c d : Expr} {ta tb tc td : TE} {pos : Pos}
noncomputable def tCh3 (r1 r2 r3 : R2) (ta tb tc td : TE) : TE := fun σ H Q => ta σ H fun x H1 => tb σ H1 fun y H2 => r1 x y H2 fun z H3 => ∃ k, z = .bl k ∧
  (if k = true then tc σ H3 fun w' H4 => r2 y w' H4 fun z' H5 => ∃ k', z' = .bl k' ∧ (if k' = true then td σ H5 fun v' H6 => r3 w' v' H6 Q else Q (.bl false) H5) else Q (.bl false) H3)
theorem pt_ch3 {o1 o2 o3 : CmpOp} {r1 r2 r3 : R2} (h1 : OpR X (compareOp o1) r1) (h2 : OpR X (compareOp o2) r2) (h3 : OpR X (compareOp o3) r3) (ha : PE X a ta) (hb : PE X b tb) (hc : PE X c tc) (hd : PE X d td)
    (hm : lastMarks [o1, o2, o3] [b, c, d] = false := by with_unfolding_all rfl) : PT X (.Compare a [o1, o2, o3] [b, c, d] pos) (tTest (tCh3 r1 r2 r3 ta tb tc td)) := by
  intro pins s σ H Q I h
  refine isTrue_chain (thn (ha pins s σ H _ I h) fun v s1 ⟨x, H1, I1, x1, q1⟩ => test_link (thn (hb pins s1 σ H1 _ I1 q1) fun u s2 ⟨y, H2, I2, x2, q2⟩ =>
    thn (h1 pins s2 σ H2 x y v u _ I2 x1 x2 q2) fun e s3 ⟨z, H3, I3, x3, k, ek, q3⟩ => ?_)) hm
  subst ek
  cases x3
  refine wpAny_truthy_bool ?_
  cases k with
  | false =>
    obtain ⟨k', e', q'⟩ := q3
    cases e'
    exact ite_ff ⟨H3, I3, q'⟩
  | true =>
    refine ite_tt (test_link (thn (hc pins s3 σ H3 _ I3 q3) fun w' s4 ⟨z', H4, I4, x4, q4⟩ => thn (h2 pins s4 σ H4 y z' u w' _ I4 x2 x4 q4) fun d' s5 ⟨z2, H5, I5, x5, k2, e2, q5⟩ => ?_))
    subst e2
    cases x5
    refine wpAny_truthy_bool ?_
    cases k2 with
    | false =>
      obtain ⟨k', e', q'⟩ := q5
      cases e'
      exact ite_ff ⟨H5, I5, q'⟩
    | true =>
      refine ite_tt (test_last (thn (hd pins s5 σ H5 _ I5 q5) fun w2 s6 ⟨z3, H6, I6, x6, q6⟩ => thn (h3 pins s6 σ H6 z' z3 w' w2 _ I6 x4 x6 q6) fun d2 s7 ⟨z4, H7, I7, x7, k3, e3, q7⟩ => ?_))
      subst e3
      cases x7
      exact wpAny_truthy_bool ⟨H7, I7, q7⟩
end
end L2
namespace Ck
open PySem L2
end Ck
namespace Ck
open PySem L2
noncomputable def crsP (p r : Pair) : Bool := decide (p.1 < r.1) && (decide (r.1 < p.2) && decide (p.2 < r.2))
noncomputable def crossB (ps : List Pair) : Bool := ps.any fun p => ps.any (crsP p)
theorem rgI_nd (n : Nat) : (rgI n).Nodup := (rgI_lt n).imp fun h => Int.ne_of_lt h
theorem crossB_iff {ps : List Pair} : crossB ps = true ↔ ∃ p ∈ ps, ∃ r ∈ ps, p.1 < r.1 ∧ r.1 < p.2 ∧ p.2 < r.2 := by
  unfold crossB
  rw [List.any_eq_true]
  constructor
  · rintro ⟨p, hp, h⟩
    obtain ⟨r, hr, h⟩ := List.any_eq_true.mp h
    unfold crsP at h
    exact ⟨p, hp, r, hr, by simpa using h⟩
  · rintro ⟨p, hp, r, hr, h⟩
    exact ⟨p, hp, List.any_eq_true.mpr ⟨r, hr, by unfold crsP; simpa using h⟩⟩
end Ck
set_option Elab.async false
set_option linter.all false
set_option maxRecDepth 100000
set_option maxHeartbeats 4000000
namespace Zp
open PySem PyProof.Rows
noncomputable abbrev ZipB (h : Heap) (z TI TO T : Addr) (b : Bool) : Prop :=
  h.get? z = some { cls := .type "zip", dict := none, data := .fields #[rawInt T, .bool b, .bool false, .ref TI, .ref TO], slots := #[] }
section
variable {prog : Program} {w : World} {A : Around} {E : Value → Shared → Prop} {s : Shared}
theorem wpAny_alive {M : Model} {a : Addr} {Q : Option Obj → Shared → Prop} (h : Q (s.heap.get? a) s) : wpAny M A (loadIfAlive a) Q E s := fun _ _ _ => h
theorem isFree_no {z TI TO T : Addr} {b : Bool} {oT : Obj} {Q : Bool → Shared → Prop} (hz : ZipB s.heap z TI TO T b) (hT : s.heap.get? T = some oT)
    (q : ∀ h', ZipB h' z TI TO T true → (∀ c o, c ≠ z → s.heap.get? c = some o → h'.get? c = some o) → h'.objs.size = s.heap.objs.size → Q false { s with heap := h' }) : wpAny (model prog w) A (Builtin.SmallTypes.ownedTupleIsFree (.ref z)) Q E s := by
  unfold Builtin.SmallTypes.ownedTupleIsFree
  refine wpAny_bind (wpAny_field hz rfl (x := rawInt T) rfl ?_)
  unfold rawInt
  refine wpAny_bind (wpAny_alive ?_)
  rw [show ((T : Nat) : Int).toNat = T by omega, hT]
  rw [if_neg (by simp)]
  refine wpAny_bind (wpAny_field hz rfl (x := .bool b) rfl ?_)
  cases b with
  | true =>
    rw [if_neg (by decide)]
    exact wpAny_bind (wpAny_pure (wpAny_pure (q s.heap hz (fun c o _ e => e) rfl)))
  | false =>
    rw [if_pos (by decide)]
    exact wpAny_bind (wpAny_setField_rec hz (by simp) fun h1 hz1 hs1 => wpAny_pure (q h1 hz1 (fun c o n e => hs1.extBut _ _ n e) hs1.1))
theorem zipB_item {z TI TO T i1 i2 l1 l2 : Addr} {k1 k2 : Nat} {xs ys : Array Value} {x y : Value} {b : Bool} {oT : Obj} {Q : Value → Shared → Prop} (D : ZipApart z TI TO i1 i2 l1 l2)
    (hz : ZipB s.heap z TI TO T b) (hT : s.heap.get? T = some oT) (hTI : IsPair s.heap TI (.ref i1) (.ref i2)) (h1 : s.heap.IsListIter i1 l1 k1) (h2 : s.heap.IsListIter i2 l2 k2) (hl1 : s.heap.IsList l1 xs) (hl2 : s.heap.IsList l2 ys) (hx : xs[k1]? = some x) (hy : ys[k2]? = some y)
    (hQ : ∀ h', ZipB h' z TI TO T true → h'.IsListIter i1 l1 (k1 + 1) → h'.IsListIter i2 l2 (k2 + 1) → IsPair h' s.heap.objs.size x y → h'.objs.size = s.heap.objs.size + 1 →
      (∀ c o, c ≠ z → c ≠ i1 → c ≠ i2 → s.heap.get? c = some o → h'.get? c = some o) → Q (.ref s.heap.objs.size) { s with heap := h' }) :
    wpAny (model prog w) A (Builtin.«zip.__next__» ⟨[.ref z], []⟩) (fun fin s' => ∃ v, fin = .done (.ret v) ∧ Q v s') E s := by
  show wpAny _ _ (field (.ref z) 2 >>= _) _ _ _
  refine wpAny_bind (wpAny_field hz rfl (x := .bool false) rfl ?_)
  show wpAny _ _ (field (.ref z) 3 >>= _) _ _ _
  refine wpAny_bind (wpAny_field hz rfl (x := .ref TI) rfl (wpAny_bind (wpAny_seqItems hTI rfl ?_)))
  show wpAny _ _ (Builtin.SmallTypes.ownedTupleIsFree (.ref z) >>= _) _ _ _
  refine wpAny_bind (isFree_no hz hT fun ha hza ka sza => ?_)
  rw [if_neg (by decide)]
  simp only [List.forIn_cons, List.forIn_nil, Array.forIn_toList, ← Array.forIn_toList]
  refine wpAny_bind (wpAny_bind (wpAny_bind (wpAny_holding ?_)))
  show wpAny _ _ (Builtin.SmallTypes.nextOf (.ref i1) >>= _) _ _ _
  refine wpAny_bind (wpAny_nextOf_list_item (h1.at fun o e => ka _ o D.i1z e) (hl1.at fun o e => ka _ o D.l1z e) hx fun hb h1b hsb => wpAny_pure (wpAny_pure ?_))
  refine wpAny_bind (wpAny_bind (wpAny_holding ?_))
  show wpAny _ _ (Builtin.SmallTypes.nextOf (.ref i2) >>= _) _ _ _
  refine wpAny_bind (wpAny_nextOf_list_item ((h2.at fun o e => ka _ o D.i2z e).extBut hsb.extBut D.i12.symm) ((hl2.at fun o e => ka _ o D.l2z e).extBut hsb.extBut D.l2i1) hy fun hc h2c hsc => wpAny_pure (wpAny_pure (wpAny_pure ?_)))
  refine wpAny_bind (wpAny_newTuple (wpAny_pure ⟨_, rfl, ?_⟩) (by show 2 ≤ sizeLine; rw [sizeLine_eq]; omega))
  have szc : hc.objs.size = s.heap.objs.size := by rw [hsc.1, hsb.1, sza]
  have up : ∀ c o, hc.get? c = some o → (hc.push { cls := .type "tuple", data := .seq #[x, y] }).get? c = some o := fun c o e => Heap.get?_push_of_some _ e
  have hzc : ZipB hc z TI TO T true := hsc.extBut _ _ D.i2z.symm (hsb.extBut _ _ D.i1z.symm hza)
  have hT8 : IsPair (hc.push { cls := .type "tuple", data := .seq #[x, y] }) hc.objs.size x y := Heap.get?_push_size _ rfl
  show Q (.ref hc.objs.size) { s with heap := hc.push { cls := .type "tuple", data := .seq #[x, y] } }
  rw [szc] at hT8 ⊢
  exact hQ _ (up _ _ hzc) ((h1b.extBut hsc.extBut D.i12).at fun o e => up _ o e) (h2c.at fun o e => up _ o e) hT8 (by rw [Heap.size_push, szc]) fun c o c1 c2 c3 e => up _ _ (hsc.extBut _ _ c3 (hsb.extBut _ _ c2 (ka _ _ c1 e)))
theorem zipB_end {z TI TO T i1 i2 l1 l2 : Addr} {k1 k2 : Nat} {xs ys : Array Value} {b : Bool} {oT : Obj} {Q : PySem.Fin → Shared → Prop} (hh : A.handled = none) (D : ZipApart z TI TO i1 i2 l1 l2)
    (hz : ZipB s.heap z TI TO T b) (hT : s.heap.get? T = some oT) (hTI : IsPair s.heap TI (.ref i1) (.ref i2)) (h1 : s.heap.IsListIter i1 l1 k1) (h2 : s.heap.IsListIter i2 l2 k2) (hl1 : s.heap.IsList l1 xs) (hl2 : s.heap.IsList l2 ys) (hend : xs[k1]? = none ∨ ys[k2]? = none)
    (hE : ∀ h' e, (∀ c o, c ≠ z → c ≠ i1 → c ≠ i2 → s.heap.get? c = some o → h'.get? c = some o) → (∃ o, h'.get? e = some o ∧ o.cls = .type "StopIteration") → E (.ref e) { s with heap := h' }) :
    wpAny (model prog w) A (Builtin.«zip.__next__» ⟨[.ref z], []⟩) Q E s := by
  show wpAny _ _ (field (.ref z) 2 >>= _) _ _ _
  refine wpAny_bind (wpAny_field hz rfl (x := .bool false) rfl ?_)
  show wpAny _ _ (field (.ref z) 3 >>= _) _ _ _
  refine wpAny_bind (wpAny_field hz rfl (x := .ref TI) rfl (wpAny_bind (wpAny_seqItems hTI rfl ?_)))
  show wpAny _ _ (Builtin.SmallTypes.ownedTupleIsFree (.ref z) >>= _) _ _ _
  refine wpAny_bind (isFree_no hz hT fun ha hza ka sza => ?_)
  rw [if_neg (by decide)]
  simp only [List.forIn_cons, List.forIn_nil, Array.forIn_toList, ← Array.forIn_toList]
  refine wpAny_bind (wpAny_bind (wpAny_bind (wpAny_holding ?_)))
  show wpAny _ _ (Builtin.SmallTypes.nextOf (.ref i1) >>= _) _ _ _
  cases hx : xs[k1]? with
  | none =>
    exact wpAny_bind (wpAny_nextOf_list_end hh (h1.at fun o e => ka _ o D.i1z e) (hl1.at fun o e => ka _ o D.l1z e) hx fun hb e hsb he => hE hb e (fun c o c1 c2 _ x => hsb _ _ c2 (ka _ _ c1 x)) he)
  | some x =>
    have hy : ys[k2]? = none := by rcases hend with h | h; rw [hx] at h; cases h; exact h
    refine wpAny_bind (wpAny_nextOf_list_item (h1.at fun o e => ka _ o D.i1z e) (hl1.at fun o e => ka _ o D.l1z e) hx fun hb h1b hsb => wpAny_pure (wpAny_pure ?_))
    refine wpAny_bind (wpAny_bind (wpAny_holding ?_))
    show wpAny _ _ (Builtin.SmallTypes.nextOf (.ref i2) >>= _) _ _ _
    exact wpAny_bind (wpAny_nextOf_list_end hh ((h2.at fun o e => ka _ o D.i2z e).extBut hsb.extBut D.i12.symm) ((hl2.at fun o e => ka _ o D.l2z e).extBut hsb.extBut D.l2i1) hy fun hc e hsc he => hE hc e (fun c o c1 c2 c3 x => hsc _ _ c3 (hsb.extBut _ _ c2 (ka _ _ c1 x))) he)
theorem next_zipB {z TI TO T i1 i2 l1 l2 : Addr} {k1 k2 : Nat} {xs ys : Array Value} {x y : Value} {b : Bool} {oT : Obj} {Q : Option Value → Shared → Prop} (D : ZipApart z TI TO i1 i2 l1 l2)
    (hz : ZipB s.heap z TI TO T b) (hT : s.heap.get? T = some oT) (hTI : IsPair s.heap TI (.ref i1) (.ref i2)) (h1 : s.heap.IsListIter i1 l1 k1) (h2 : s.heap.IsListIter i2 l2 k2) (hl1 : s.heap.IsList l1 xs) (hl2 : s.heap.IsList l2 ys) (hx : xs[k1]? = some x) (hy : ys[k2]? = some y)
    (hQ : ∀ h', ZipB h' z TI TO T true → h'.IsListIter i1 l1 (k1 + 1) → h'.IsListIter i2 l2 (k2 + 1) → IsPair h' s.heap.objs.size x y → h'.objs.size = s.heap.objs.size + 1 →
      (∀ c o, c ≠ z → c ≠ i1 → c ≠ i2 → s.heap.get? c = some o → h'.get? c = some o) → Q (some (.ref s.heap.objs.size)) { s with heap := h' }) :
    wpAny (model prog w) A (pyNext (.ref z)) Q E s := by
  have hTy : s.TypeIs (.ref z) "zip" := ⟨_, hz, rfl⟩
  unfold pyNext
  exact wpAny_bind (wpAny_attempt (wpAny_callSpecial?_slot (name := Str.ofString "__next__") hTy F.slot_zip_next (wpAny_call_entry F.slot_zip_next hTy F.entry_zip_next
    (zipB_item D hz hT hTI h1 h2 hl1 hl2 hx hy fun h' a1 a2 a3 a4 a5 a6 => wpAny_pure (hQ h' a1 a2 a3 a4 a5 a6)) (F.args_zip_next_1 _))))
theorem end_zipB {z TI TO T i1 i2 l1 l2 : Addr} {k1 k2 : Nat} {xs ys : Array Value} {b : Bool} {oT : Obj} {Q : Option Value → Shared → Prop} (hh : A.handled = none) (D : ZipApart z TI TO i1 i2 l1 l2)
    (hz : ZipB s.heap z TI TO T b) (hT : s.heap.get? T = some oT) (hTI : IsPair s.heap TI (.ref i1) (.ref i2)) (h1 : s.heap.IsListIter i1 l1 k1) (h2 : s.heap.IsListIter i2 l2 k2) (hl1 : s.heap.IsList l1 xs) (hl2 : s.heap.IsList l2 ys) (hend : xs[k1]? = none ∨ ys[k2]? = none)
    (hQ : ∀ h', (∀ c o, c ≠ z → c ≠ i1 → c ≠ i2 → s.heap.get? c = some o → h'.get? c = some o) → Q none { s with heap := h' }) : wpAny (model prog w) A (pyNext (.ref z)) Q E s := by
  have hTy : s.TypeIs (.ref z) "zip" := ⟨_, hz, rfl⟩
  unfold pyNext
  refine wpAny_bind (wpAny_attempt (wpAny_callSpecial?_slot (name := Str.ofString "__next__") hTy F.slot_zip_next (wpAny_call_entry F.slot_zip_next hTy F.entry_zip_next (zipB_end hh D hz hT hTI h1 h2 hl1 hl2 hend fun h' e hk he => ?_) (F.args_zip_next_1 _))))
  obtain ⟨o, ho, hc⟩ := he
  exact wpAny_bind (wpAny_isInstance (T := "StopIteration") (b := true) ⟨o, ho, hc⟩ isSubtype_stop (wpAny_pure (hQ _ hk)))
end
end Zp
namespace Zp
open PySem PyProof.Rows
noncomputable def Zs (h : Heap) (z TI TO : Addr) (ts : List Addr) : Prop := (ts = [] ∧ IsZip h z TI TO .none ∧ ∃ a b, IsPair h TO a b) ∨ ∃ T b, T ∈ ts ∧ ZipB h z TI TO T b
structure ZSt (h : Heap) (z TI TO i1 i2 l1 l2 : Addr) (xs ys : Array Value) (ts : List Addr) : Prop where
  zs : Zs h z TI TO ts
  ti : IsPair h TI (.ref i1) (.ref i2)
  it1 : h.IsListIter i1 l1 ts.length
  it2 : h.IsListIter i2 l2 ts.length
  li1 : h.IsList l1 xs
  li2 : h.IsList l2 ys
  tup : ∀ (j : Nat) (T : Addr), ts[j]? = some T → ∃ x y, xs[j]? = some x ∧ ys[j]? = some y ∧ IsPair h T x y ∧ T ≠ z ∧ T ≠ TO ∧ T ≠ i1 ∧ T ≠ i2
  nd : ts.Nodup
  tto : ∃ o, h.get? TO = some o
theorem ZSt.keep {h h' : Heap} {z TI TO i1 i2 l1 l2 : Addr} {xs ys : Array Value} {ts : List Addr} (Z : ZSt h z TI TO i1 i2 l1 l2 xs ys ts) (k : ∀ b o, h.get? b = some o → (b = z ∨ b = TI ∨ b = TO ∨ b = i1 ∨ b = i2 ∨ b = l1 ∨ b = l2 ∨ b ∈ ts) → h'.get? b = some o) : ZSt h' z TI TO i1 i2 l1 l2 xs ys ts := by
  refine ⟨?_, k _ _ Z.ti (by simp), Z.it1.at fun o e => k _ o e (by simp), Z.it2.at fun o e => k _ o e (by simp), Z.li1.at fun o e => k _ o e (by simp), Z.li2.at fun o e => k _ o e (by simp), fun j T hj => ?_, Z.nd, let ⟨o, e⟩ := Z.tto; ⟨o, k _ _ e (by simp)⟩⟩
  · rcases Z.zs with ⟨e, hz, a, b, ho⟩ | ⟨T, b, hT, hz⟩
    · exact .inl ⟨e, k _ _ hz (by simp), a, b, k _ _ ho (by simp)⟩
    · exact .inr ⟨T, b, hT, k _ _ hz (by simp)⟩
  · obtain ⟨x, y, h1, h2, h3, h4⟩ := Z.tup j T hj
    exact ⟨x, y, h1, h2, k _ _ h3 (by simp [List.mem_of_getElem? hj]), h4⟩
section
variable {prog : Program} {w : World} {A : Around} {E : Value → Shared → Prop} {s : Shared}
theorem zs_item {z TI TO i1 i2 l1 l2 : Addr} {xs ys : Array Value} {ts : List Addr} {Q : Option Value → Shared → Prop} (D : ZipApart z TI TO i1 i2 l1 l2) (Z : ZSt s.heap z TI TO i1 i2 l1 l2 xs ys ts) (lt : ts.length < min xs.size ys.size)
    (q : ∀ h', ZSt h' z TI TO i1 i2 l1 l2 xs ys (ts ++ [s.heap.objs.size]) → (∀ c o, c ≠ z → c ≠ TO → c ≠ i1 → c ≠ i2 → s.heap.get? c = some o → h'.get? c = some o) → Q (some (.ref s.heap.objs.size)) { s with heap := h' }) : wpAny (model prog w) A (pyNext (.ref z)) Q E s := by
  have lx : ts.length < xs.size := by omega
  have ly : ts.length < ys.size := by omega
  have sx := Array.getElem?_eq_getElem lx
  have sy := Array.getElem?_eq_getElem ly
  have far : ∀ {c o}, s.heap.get? c = some o → s.heap.objs.size ≠ c := fun e => Nat.ne_of_gt (Heap.lt_size e)
  have hzl : ∃ o, s.heap.get? z = some o := by
    rcases Z.zs with ⟨_, hz, _⟩ | ⟨T, b, _, hz⟩
    · exact ⟨_, hz⟩
    · exact ⟨_, hz⟩
  have fin : ∀ h' : Heap, Zs h' z TI TO (ts ++ [s.heap.objs.size]) → h'.IsListIter i1 l1 (ts.length + 1) → h'.IsListIter i2 l2 (ts.length + 1) → IsPair h' s.heap.objs.size xs[ts.length] ys[ts.length] → (∀ c o, c ≠ z → c ≠ TO → c ≠ i1 → c ≠ i2 → s.heap.get? c = some o → h'.get? c = some o) → (∃ o, h'.get? TO = some o) → Q (some (.ref s.heap.objs.size)) { s with heap := h' } := fun h' a1 a2 a3 a4 a5 aTO => by
    have nTO : s.heap.objs.size ≠ TO := let ⟨_, e⟩ := Z.tto; far e
    refine q h' ⟨a1, a5 _ _ D.TIz D.TITO D.TIi1 D.TIi2 Z.ti, by rw [List.length_append]; exact a2, by rw [List.length_append]; exact a3, Z.li1.at fun o e => a5 _ o D.l1z D.l1TO D.l1i1 D.l1i2 e, Z.li2.at fun o e => a5 _ o D.l2z D.l2TO D.l2i1 D.l2i2 e, fun j T hj => ?_, ?_, aTO⟩ a5
    · by_cases e : j < ts.length
      · rw [List.getElem?_append_left e] at hj
        obtain ⟨x, y, h1, h2, h3, n1, n2, n3, n4⟩ := Z.tup j T hj
        exact ⟨x, y, h1, h2, a5 _ _ n1 n2 n3 n4 h3, n1, n2, n3, n4⟩
      · rw [List.getElem?_append_right (by omega)] at hj
        have ej : j = ts.length := by
          have := (List.getElem?_eq_some_iff.mp hj).1
          simp at this
          omega
        subst ej
        have eT : s.heap.objs.size = T := by simpa using hj
        subst eT
        obtain ⟨o, ho⟩ := hzl
        exact ⟨_, _, sx, sy, a4, far ho, nTO, (by obtain ⟨_, e, _⟩ := Z.it1; exact far e), (by obtain ⟨_, e, _⟩ := Z.it2; exact far e)⟩
    · refine List.nodup_append.mpr ⟨Z.nd, by simp, fun c hc d hd => ?_⟩
      have ed : d = s.heap.objs.size := by simpa using hd
      obtain ⟨j, hj⟩ := List.getElem?_of_mem hc
      obtain ⟨x, y, _, _, h3, _⟩ := Z.tup j c hj
      rw [ed]
      exact (far h3).symm
  rcases Z.zs with ⟨e, hz, a, b, ho⟩ | ⟨T, b, hT, hz⟩
  · exact wpAny_pyNext_zip_item D hz Z.ti ho Z.it1 Z.it2 Z.li1 Z.li2 sx sy fun h' a1 a2 a3 a4 a5 a6 a7 => fin h' (.inr ⟨_, false, by simp, a1⟩) a3 a4 a5 a7 ⟨_, a2⟩
  · obtain ⟨j, hj⟩ := List.getElem?_of_mem hT
    obtain ⟨x, y, _, _, h3, _⟩ := Z.tup j T hj
    obtain ⟨o, eo⟩ := Z.tto
    exact next_zipB D hz h3 Z.ti Z.it1 Z.it2 Z.li1 Z.li2 sx sy fun h' a1 a2 a3 a4 a5 a6 => fin h' (.inr ⟨T, true, by simp [hT], a1⟩) a2 a3 a4 (fun c o c1 _ c3 c4 e => a6 c o c1 c3 c4 e) ⟨o, a6 _ _ D.TOz D.TOi1 D.TOi2 eo⟩
theorem zs_end {z TI TO i1 i2 l1 l2 : Addr} {xs ys : Array Value} {ts : List Addr} {Q : Option Value → Shared → Prop} (hh : A.handled = none) (D : ZipApart z TI TO i1 i2 l1 l2) (Z : ZSt s.heap z TI TO i1 i2 l1 l2 xs ys ts) (le : min xs.size ys.size ≤ ts.length)
    (q : ∀ h', (∀ c o, c ≠ z → c ≠ TO → c ≠ i1 → c ≠ i2 → s.heap.get? c = some o → h'.get? c = some o) → Q none { s with heap := h' }) : wpAny (model prog w) A (pyNext (.ref z)) Q E s := by
  have hend : xs[ts.length]? = none ∨ ys[ts.length]? = none := by
    by_cases h : xs.size ≤ ts.length
    · exact .inl (Array.getElem?_eq_none h)
    · exact .inr (Array.getElem?_eq_none (by omega))
  rcases Z.zs with ⟨e, hz, a, b, ho⟩ | ⟨T, b, hT, hz⟩
  · exact wpAny_pyNext_zip_end hh D hz Z.ti ho Z.it1 Z.it2 Z.li1 Z.li2 hend q
  · obtain ⟨j, hj⟩ := List.getElem?_of_mem hT
    obtain ⟨x, y, _, _, h3, _⟩ := Z.tup j T hj
    exact end_zipB hh D hz h3 Z.ti Z.it1 Z.it2 Z.li1 Z.li2 hend fun h' k => q h' fun c o c1 _ c3 c4 e => k c o c1 c3 c4 e
end
section
variable {prog : Program} {w : World} {A : Around} {R : Result → Shared → Prop}
theorem zs_loop {z TI TO i1 i2 l1 l2 S : Addr} {xs ys : Array Value} {res : Value} (hh : A.handled = none) (D : ZipApart z TI TO i1 i2 l1 l2) (hS : S ≠ z ∧ S ≠ TI ∧ S ≠ TO ∧ S ≠ i1 ∧ S ≠ i2 ∧ S ≠ l1 ∧ S ≠ l2) (hn : min xs.size ys.size ≤ 1000000) :
    ∀ (k : Nat) (s : Shared) (ts : List Addr) (acc : Array Value) (c : Nat), min xs.size ys.size - ts.length = k → ts.length ≤ min xs.size ys.size → ZSt s.heap z TI TO i1 i2 l1 l2 xs ys ts → S ∉ ts → s.heap.get? S = some { cls := .type "list", dict := none, data := .seq acc c, slots := #[] } → acc.toList = ts.map Value.ref →
    (∀ (h' : Heap) (ts' : List Addr) (acc' : Array Value) (c' : Nat), (∀ b o, b ≠ S → b ≠ z → b ≠ TO → b ≠ i1 → b ≠ i2 → s.heap.get? b = some o → h'.get? b = some o) → h'.get? S = some { cls := .type "list", dict := none, data := .seq acc' c', slots := #[] } → acc'.toList = ts'.map Value.ref → ts'.length = min xs.size ys.size → ts'.Nodup → S ∉ ts' →
      (∀ (j : Nat) (T : Addr), ts'[j]? = some T → (∃ x y, xs[j]? = some x ∧ ys[j]? = some y ∧ IsPair h' T x y) ∧ (T ∈ ts ∨ s.heap.objs.size ≤ T)) → R (.ok (.ret res)) { s with heap := h' }) →
    codeAny (model prog w) A (.builtin "list.extend.loop" ⟨[.ref S, .ref z, res], []⟩) R s := by
  intro k
  induction k with
  | zero =>
    intro s ts acc c hk hi Z nS hl ea q
    refine codeAny_builtin F.entry_extend_loop ?_
    rw [Around.under_plainId F.plain_extend_loop _]
    show wpAny _ A.in1 (pyNext (.ref z) >>= _) _ _ s
    refine wpAny_bind (zs_end (A := A.in1) hh D Z (by omega) fun h' kk => wpAny_pure (q h' ts acc c (fun b o _ b1 b2 b3 b4 e => kk b o b1 b2 b3 b4 e) (kk _ _ hS.1 hS.2.2.1 hS.2.2.2.1 hS.2.2.2.2.1 hl) ea (by omega) Z.nd nS fun j T hj => ?_))
    obtain ⟨x, y, h1, h2, h3, n1, n2, n3, n4⟩ := Z.tup j T hj
    exact ⟨⟨x, y, h1, h2, kk _ _ n1 n2 n3 n4 h3⟩, .inl (List.mem_of_getElem? hj)⟩
  | succ k ih =>
    intro s ts acc c hk hi Z nS hl ea q
    have la : acc.size = ts.length := by rw [← Array.length_toList, ea, List.length_map]
    refine codeAny_builtin F.entry_extend_loop ?_
    rw [Around.under_plainId F.plain_extend_loop _]
    show wpAny _ A.in1 (pyNext (.ref z) >>= _) _ _ s
    refine wpAny_bind (zs_item (A := A.in1) D Z (by omega) fun h' Z' kk => ?_)
    have hl' := kk _ _ hS.1 hS.2.2.1 hS.2.2.2.1 hS.2.2.2.2.1 hl
    have nS' : S ≠ s.heap.objs.size := Nat.ne_of_lt (Heap.lt_size hl)
    have nST : S ∉ ts ++ [s.heap.objs.size] := by simp [nS, nS']
    show wpAny _ A.in1 (updateSeq S (·.push (.ref s.heap.objs.size)) >>= _) _ _ _
    have oth : ∀ b o, b ≠ S → h'.get? b = some o → (h'.update S (Obj.mapSeq (·.push (.ref s.heap.objs.size)))).get? b = some o := fun b o n e => (Heap.get?_update_other _ _ (Ne.symm n)).trans e
    have Z2 : ZSt (h'.update S (Obj.mapSeq (·.push (.ref s.heap.objs.size)))) z TI TO i1 i2 l1 l2 xs ys (ts ++ [s.heap.objs.size]) := Z'.keep fun b o e hb => oth b o (fun z => by
      subst z
      rcases hb with h | h | h | h | h | h | h | h
      · exact hS.1 h
      · exact hS.2.1 h
      · exact hS.2.2.1 h
      · exact hS.2.2.2.1 h
      · exact hS.2.2.2.2.1 h
      · exact hS.2.2.2.2.2.1 h
      · exact hS.2.2.2.2.2.2 h
      · exact nST h) e
    refine wpAny_bind (wpAny_updateSeq hl' rfl (wpAny_pure ⟨plainId_quiet F.plain_extend_loop _, ih { s with heap := h'.update S (Obj.mapSeq (·.push (.ref s.heap.objs.size))) } (ts ++ [s.heap.objs.size]) (acc.push (.ref s.heap.objs.size)) _ (by rw [List.length_append]; show _ - (ts.length + 1) = k; omega) (by rw [List.length_append]; show ts.length + 1 ≤ _; omega) Z2 nST (Heap.get?_update_self _ hl' rfl) (by rw [Array.toList_push, ea, List.map_append]; rfl) fun h2 ts' acc' c' kk2 hl2 ea2 lt2 nd2 nS2 tu => ?_⟩)
      (by rw [la, sizeLine_eq]; omega) (by show (acc.push (.ref s.heap.objs.size)).size ≤ sizeLine + 1; rw [Array.size_push, la, sizeLine_eq]; omega))
    refine q h2 ts' acc' c' (fun b o b0 b1 b2 b3 b4 e => kk2 b o b0 b1 b2 b3 b4 (oth b o b0 (kk b o b1 b2 b3 b4 e))) hl2 ea2 lt2 nd2 nS2 fun j T hj => ?_
    obtain ⟨g1, g2⟩ := tu j T hj
    refine ⟨g1, ?_⟩
    rcases g2 with g | g
    · rcases List.mem_append.mp g with g | g
      · exact .inl g
      · exact .inr (by rw [show T = s.heap.objs.size by simpa using g]; exact Nat.le_refl _)
    · have hsz : s.heap.objs.size ≤ (h'.update S (Obj.mapSeq (·.push (.ref s.heap.objs.size)))).objs.size := by
        rw [Heap.size_update]
        obtain ⟨x, y, _, _, h3, _⟩ := Z'.tup ts.length s.heap.objs.size (by simp)
        exact Nat.le_of_lt (Heap.lt_size h3)
      exact .inr (Nat.le_trans hsz g)
end
end Zp
namespace Zp
open PySem PyProof.Rows
theorem zip_len : typeLookup (.type "zip") "__len__" = pure none := by rw [typeLookup_type, builtinLookup_eq_fast]; kernel_rfl
theorem zip_hint : typeLookup (.type "zip") "__length_hint__" = pure none := by rw [typeLookup_type, builtinLookup_eq_fast]; kernel_rfl
section
variable {prog : Program} {w : World} {A : Around} {E : Value → Shared → Prop} {s : Shared}
theorem hint_zip {z : Addr} {Q : Bool → Shared → Prop} (hT : s.TypeIs (.ref z) "zip") (q : Q true s) : wpAny (model prog w) A (Builtin.List.listLengthHint (.ref z)) Q E s := by
  unfold Builtin.List.listLengthHint
  refine wpAny_bind (wpAny_specialOf hT zip_len ?_)
  dsimp only
  exact wpAny_bind (wpAny_specialOf hT zip_hint (wpAny_pure q))
theorem ZSt.zip {h : Heap} {z TI TO i1 i2 l1 l2 : Addr} {xs ys : Array Value} (Z : ZSt h z TI TO i1 i2 l1 l2 xs ys []) : IsZip h z TI TO .none := by
  rcases Z.zs with ⟨_, hz, _⟩ | ⟨T, b, hT, _⟩
  · exact hz
  · cases hT
theorem extend_zip {R : Result → Shared → Prop} {z TI TO i1 i2 l1 l2 S : Addr} {xs ys : Array Value} {res : Value} {c : Nat} (hh : A.handled = none) (D : ZipApart z TI TO i1 i2 l1 l2) (hS : S ≠ z ∧ S ≠ TI ∧ S ≠ TO ∧ S ≠ i1 ∧ S ≠ i2 ∧ S ≠ l1 ∧ S ≠ l2) (hn : min xs.size ys.size ≤ 1000000)
    (Z : ZSt s.heap z TI TO i1 i2 l1 l2 xs ys []) (hl : s.heap.get? S = some { cls := .type "list", dict := none, data := .seq #[] c, slots := #[] })
    (q : ∀ (h' : Heap) (ts : List Addr) (acc : Array Value) (c' : Nat), (∀ b o, b ≠ S → b ≠ z → b ≠ TO → b ≠ i1 → b ≠ i2 → s.heap.get? b = some o → h'.get? b = some o) → h'.get? S = some { cls := .type "list", dict := none, data := .seq acc c', slots := #[] } → acc.toList = ts.map Value.ref → ts.length = min xs.size ys.size → ts.Nodup → S ∉ ts →
      (∀ (j : Nat) (T : Addr), ts[j]? = some T → (∃ x y, xs[j]? = some x ∧ ys[j]? = some y ∧ IsPair h' T x y) ∧ s.heap.objs.size ≤ T) → R (.ok (.ret res)) { s with heap := h' }) :
    wpAny (model prog w) A.in1 (Builtin.List.listExtendWith (.ref S) (.ref z) res) (fun fin s' => match fin with | .done f => R (.ok f) s' | .again c' => c'.quiet = true ∧ codeAny (model prog w) A c' R s') (fun e s' => R (.error e) s') s := by
  have hz := Z.zip
  have n1 : Builtin.List.listSameRef (.ref S) (.ref z) = false := by simp [Builtin.List.listSameRef, hS.1]
  have n2 : (Value.type "zip" == Value.type "list") = false := by decide
  have n3 : (Value.type "zip" == Value.type "tuple") = false := by decide
  unfold Builtin.List.listExtendWith
  refine wpAny_bind (wpAny_typeOf (T := "zip") ⟨_, hz, rfl⟩ ?_)
  simp only [n1, n2, n3, Bool.or_false, Bool.false_eq_true, if_false]
  refine wpAny_bind (wpAny_pyIter_zip hz (wpAny_bind (wpAny_holding (hint_zip ⟨_, hz, rfl⟩ ?_))))
  simp only [Bool.true_or, if_true]
  refine wpAny_bind (wpAny_rule (wpAny_bind ?_))
  show wpAny _ _ (updateSeq S (·.push .none) >>= fun _ => updateSeq S (·.pop)) _ _ _
  have hl2 := Heap.get?_update_self (Obj.mapSeq (·.push Value.none)) hl rfl
  have hl3 := Heap.get?_update_self (Obj.mapSeq (·.pop)) hl2 rfl
  have oth : ∀ b o, b ≠ S → s.heap.get? b = some o → ((s.heap.update S (Obj.mapSeq (·.push Value.none))).update S (Obj.mapSeq (·.pop))).get? b = some o := fun b o n e => (Heap.get?_update_other _ _ (Ne.symm n)).trans ((Heap.get?_update_other _ _ (Ne.symm n)).trans e)
  refine wpAny_bind (wpAny_updateSeq hl rfl (wpAny_updateSeq hl2 rfl (wpAny_pure ⟨plainId_quiet F.plain_extend_loop _, ?_⟩) (by show 1 ≤ sizeLine; rw [sizeLine_eq]; omega) (by show 0 ≤ _; exact Nat.zero_le _)) (Nat.zero_le _) (by show 1 ≤ _; rw [sizeLine_eq]; omega))
  refine zs_loop (xs := xs) (ys := ys) hh D hS hn _ _ [] #[] _ rfl (Nat.zero_le _) (Z.keep fun b o e hb => oth b o (fun x => by
      subst x
      rcases hb with h | h | h | h | h | h | h | h
      · exact hS.1 h
      · exact hS.2.1 h
      · exact hS.2.2.1 h
      · exact hS.2.2.2.1 h
      · exact hS.2.2.2.2.1 h
      · exact hS.2.2.2.2.2.1 h
      · exact hS.2.2.2.2.2.2 h
      · cases h) e) (by simp) hl3 rfl fun h' ts acc c' k e1 e2 e3 e4 e5 e6 => q h' ts acc c' (fun b o b0 b1 b2 b3 b4 e => k b o b0 b1 b2 b3 b4 (oth b o b0 e)) e1 e2 e3 e4 e5 fun j T hj => ?_
  obtain ⟨g1, g2⟩ := e6 j T hj
  refine ⟨g1, ?_⟩
  rcases g2 with g | g
  · cases g
  · rw [Heap.size_update, Heap.size_update] at g
    exact g
theorem list_zip {Q : Value → Shared → Prop} {z TI TO i1 i2 l1 l2 : Addr} {xs ys : Array Value} (hh : A.handled = none) (D : ZipApart z TI TO i1 i2 l1 l2) (hn : min xs.size ys.size ≤ 1000000) (Z : ZSt s.heap z TI TO i1 i2 l1 l2 xs ys [])
    (q : ∀ (h' : Heap) (ts : List Addr) (acc : Array Value) (c' : Nat), (∀ b o, b ≠ z → b ≠ TO → b ≠ i1 → b ≠ i2 → s.heap.get? b = some o → h'.get? b = some o) → h'.get? s.heap.objs.size = some { cls := .type "list", dict := none, data := .seq acc c', slots := #[] } → acc.toList = ts.map Value.ref → ts.length = min xs.size ys.size → ts.Nodup →
      (∀ (j : Nat) (T : Addr), ts[j]? = some T → (∃ x y, xs[j]? = some x ∧ ys[j]? = some y ∧ IsPair h' T x y) ∧ s.heap.objs.size < T) → Q (.ref s.heap.objs.size) { s with heap := h' }) :
    wpAny (model prog w) A (call (.type "list") [.ref z]) Q E s := by
  have hz := Z.zip
  have far : ∀ {c o}, s.heap.get? c = some o → s.heap.objs.size ≠ c := fun e => Nat.ne_of_gt (Heap.lt_size e)
  have hS : s.heap.objs.size ≠ z ∧ s.heap.objs.size ≠ TI ∧ s.heap.objs.size ≠ TO ∧ s.heap.objs.size ≠ i1 ∧ s.heap.objs.size ≠ i2 ∧ s.heap.objs.size ≠ l1 ∧ s.heap.objs.size ≠ l2 :=
    ⟨far hz, far Z.ti, (let ⟨_, e⟩ := Z.tto; far e), (let ⟨_, e, _⟩ := Z.it1; far e), (let ⟨_, e, _⟩ := Z.it2; far e), (let ⟨_, e, _⟩ := Z.li1; far e), (let ⟨_, e, _⟩ := Z.li2; far e)⟩
  refine callType_codes (Q₁ := fun T s1 => T = .ref s.heap.objs.size ∧ s1 = { s with heap := s.heap.push { cls := .type "list", data := .seq #[] } }) F.called_list (F.typeCall_list_1 _) F.entry_list_init (code_list_new _ ⟨rfl, rfl⟩) fun T s1 e1 => ?_
  obtain ⟨rfl, rfl⟩ := e1
  have g0 : (s.heap.push { cls := .type "list", data := .seq #[] }).get? s.heap.objs.size = some { cls := .type "list", data := .seq #[] } := Heap.get?_push_size _ rfl
  have g1 := Heap.get?_update_self (Obj.mapSeq (fun _ => (#[] : Array Value))) g0 rfl
  have oth : ∀ b o, s.heap.get? b = some o → ((s.heap.push { cls := .type "list", data := .seq #[] }).update s.heap.objs.size (Obj.mapSeq (fun _ => (#[] : Array Value)))).get? b = some o := fun b o e => (Heap.get?_update_other _ _ (far e)).trans (Heap.get?_push_of_some _ e)
  refine ⟨⟨_, g0, rfl⟩, F.args_list_init_2 _ _, ?_⟩
  show wpAny _ _ (do let was ← Builtin.List.listItems (.ref s.heap.objs.size); Builtin.List.listUpdate (.ref s.heap.objs.size) (fun _ => #[]); letGo was.toList.reverse; Builtin.List.listExtendWith (.ref s.heap.objs.size) (.ref z) .none) _ _ _
  refine wpAny_bind ?_
  unfold Builtin.List.listItems
  refine wpAny_bind (wpAny_seqItems g0 rfl (wpAny_pure ?_))
  show wpAny _ _ (updateSeq s.heap.objs.size (fun _ => #[]) >>= fun _ => letGo (#[] : Array Value).toList.reverse >>= fun _ => Builtin.List.listExtendWith (.ref s.heap.objs.size) (.ref z) .none) _ _ _
  refine wpAny_bind (wpAny_updateSeq g0 rfl (wpAny_bind (wpAny_letGo ?_)) (Nat.zero_le _) (Nat.zero_le _))
  refine extend_zip (s := { s with heap := (s.heap.push { cls := .type "list", data := .seq #[] }).update s.heap.objs.size (Obj.mapSeq (fun _ => (#[] : Array Value))) }) (A := A.in1) hh D hS hn (Z.keep fun b o e _ => oth b o e) g1 fun h' ts acc c' k e1 e2 e3 e4 e5 e6 => ⟨rfl, q h' ts acc c' (fun b o b1 b2 b3 b4 e => k b o (Ne.symm (far e)) b1 b2 b3 b4 (oth b o e)) e1 e2 e3 e4 fun j T hj => ?_⟩
  obtain ⟨x1, x2⟩ := e6 j T hj
  rw [Heap.size_update, Heap.size_push] at x2
  exact ⟨x1, x2⟩
end
end Zp
namespace Ck
open PySem L2
theorem paired_of {α β : Type} {R : α → β → Prop} : ∀ {as : List α} {bs : List β}, as.length = bs.length → (∀ (j : Nat) a b, as[j]? = some a → bs[j]? = some b → R a b) → Paired R as bs
  | [], [], _, _ => .nil
  | a :: as, b :: bs, hl, h => .cons (h 0 a b rfl rfl) (paired_of (by simpa using hl) fun j x y e1 e2 => h (j + 1) x y (by simpa using e1) (by simpa using e2))
end Ck
namespace L2
open PySem PySem.Spec PyProof.Rows Ck
section
variable {X : Cx}
theorem track_pairs {pins : List (Addr × Obj)} {σ : St} {s : Shared} {ts : List Addr} {ps : List Pair} (r : Paired (fun (T : Addr) (p : Pair) => ∃ t u, IsPair s.heap T (.int p.1 t) (.int p.2 u)) ts ps) :
    ∀ (H : Hp), Inv X pins σ H s → (∀ T ∈ ts, Ours X pins H T) → ts.Nodup → ∃ H', Inv X pins σ H' s ∧ Same H H' ∧ Prs H' (ts.map V.ref) ps ∧ ∀ b, b ∉ ts → H' b = H b := by
  induction r with
  | nil => exact fun H I _ _ => ⟨H, I, Same.refl H, .nil, fun _ _ => rfl⟩
  | @cons T p ts ps h r ih =>
    intro H I o nd
    obtain ⟨t, u, h⟩ := h
    have oT := o T (List.mem_cons_self ..)
    rw [List.nodup_cons] at nd
    have ok : ObjOk X.prog X.w (upd H T (.tup [.int p.1, .int p.2])) s.heap T (.tup [.int p.1, .int p.2]) := ⟨sz (n := 2) (by decide), [.int p.1 t, .int p.2 u], .cons ⟨_, rfl⟩ (.cons ⟨_, rfl⟩ .nil), _, h, rfl, _, rfl⟩
    have I1 := I.trackO oT ok
    obtain ⟨H', I', s', pr, k⟩ := ih _ I1 (fun U hU => by
      have ne : U ≠ T := fun z => nd.1 (z ▸ hU)
      have oU := o U (List.mem_cons_of_mem _ hU)
      exact ⟨oU.new, (upd_ne ne).trans oU.free, oU.loc, oU.cell, oU.pin⟩) nd.2
    refine ⟨H', I', (Same.new (Same.refl H) oT.free _).trans s', .cons ⟨T, rfl, s' _ _ upd_same⟩ pr, fun b hb => ?_⟩
    rw [k b (fun z => hb (List.mem_cons_of_mem _ z))]
    exact upd_ne fun z => hb (by rw [z]; exact List.mem_cons_self ..)
noncomputable def tLZ (K : PySem.W.Frag) (ta : TA) : TE := fun σ H Q => ta σ H fun vs H1 => ∃ (p q : Addr) (ns ms : List Int), vs = [.ref p, .ref q] ∧ SqL K H1 p (ns.map V.int) ∧ SqL K H1 q (ms.map V.int) ∧ ns.length ≤ 1000000 ∧ ∀ (l : Addr) (H2 : Hp), Same H1 H2 → H1 l = none → PLs H2 l (ns.zip ms) → Q (.ref l) H2
theorem pe_lzip {K : PySem.W.Frag} {a b : Expr} {ta : TA} {p p2 pos pos2 : Pos} (hK : X.K = K) (hc : X.calm = true) (hgl : Gl X "list") (hml : X.mg "list" = none) (hg : Gl X "zip") (hm : X.mg "zip" = none) (ha : PA X [a, b] ta) (hs : starEach [a, b] X.env = [(false, eval a X.env), (false, eval b X.env)] := by rfl) (hs2 : starEach [b] X.env = [(false, eval b X.env)] := by rfl)
    (he : starEach [.Call (.Name "zip" p) [a, b] [] pos] X.env = [(false, eval (.Call (.Name "zip" p) [a, b] [] pos) X.env)] := by rfl) :
    PE X (.Call (.Name "list" p2) [.Call (.Name "zip" p) [a, b] [] pos] [] pos2) (tLZ K ta) := by
  subst hK
  intro pins s σ H Q I h
  refine wpAny_Call_Name_kw (ld_blt I hgl hml bb_list ?_ (by decide) (by decide))
  refine PyProof.Rows.callWith_type1 ?_ he rfl
  rw [he]
  show wpAny _ _ (spliced ((false, eval (.Call (.Name "zip" p) [a, b] [] pos) X.env) :: backTo pos2 [])) _ _ s
  refine Calls.spliced_cons (Call_ (ld_blt I hg hm boot_zip (PyProof.Rows.callWith_type1 (thn (ha pos pins s σ H _ I h) fun us s1 ⟨vs, H1, I1, r1, q1⟩ => ?_) (by rw [hs, hs2]) (by rw [hs2]; rfl))))
  obtain ⟨p1, p2, ns, ms, e, l1, l2, z1, q⟩ := q1
  subst e
  obtain ⟨u1, u2, rfl, ru1, ru2⟩ := vals2 r1
  cases ru1
  cases ru2
  obtain ⟨its, rv, pl, hz⟩ := I1.list l1
  obtain ⟨jts, rw_, pm, hz2⟩ := I1.list l2
  have hi := intsAre_of rv
  have hj := intsAre_of rw_
  have li := hi.length
  have lj := hj.length
  have lt1 : p1 < s1.heap.objs.size := by obtain ⟨_, e, _⟩ := pl.isList; exact Heap.lt_size e
  have lt2 : p2 < s1.heap.objs.size := by obtain ⟨_, e, _⟩ := pm.isList; exact Heap.lt_size e
  refine call_zip_2 pl.isList pm.isList fun h2 hzz hTI hTO hi1 hi2 hsz hk => Calls.spliced_nil ?_
  have D := zipApart_new lt1 lt2
  have I2 : Inv X pins σ H1 { s1 with heap := h2 } := I1.kept (t' := s1.toks) hk
  have Z : Zp.ZSt h2 (s1.heap.objs.size + 4) (s1.heap.objs.size + 2) (s1.heap.objs.size + 3) s1.heap.objs.size (s1.heap.objs.size + 1) p1 p2 its.toArray jts.toArray [] :=
    ⟨.inl ⟨rfl, hzz, _, _, hTO⟩, hTI, hi1, hi2, pl.isList.at fun o e => hk _ o e, pm.isList.at fun o e => hk _ o e, fun j T hj => by simp at hj, List.nodup_nil, ⟨_, hTO⟩⟩
  refine Zp.list_zip (s := { s1 with heap := h2 }) (I.ok.hd hc) D (by simp; omega) Z fun h3 ts acc c kk hl ea lts nd tu => ?_
  have k3 : ∀ b o, s1.heap.get? b = some o → h3.get? b = some o := fun b o e => by
    have lt := Heap.lt_size e
    exact kk b o (Nat.ne_of_lt (Nat.lt_of_lt_of_le lt (Nat.le_add_right _ _))) (Nat.ne_of_lt (Nat.lt_of_lt_of_le lt (Nat.le_add_right _ _))) (Nat.ne_of_lt lt) (Nat.ne_of_lt (Nat.lt_of_lt_of_le lt (Nat.le_add_right _ _))) (hk b o e)
  have I3 : Inv X pins σ H1 { s1 with heap := h3 } := I1.kept (t' := s1.toks) k3
  have our : ∀ T, s1.heap.objs.size ≤ T → Ours X pins H1 T := fun T hT => by
    have f := I1.fpOk hT (I1.hok.fresh hT)
    exact ⟨Heap.get?_none_of_le (Nat.le_trans I1.sz hT), f.1, f.2.1, f.2.2.2.2.1, f.2.2.2.2.2⟩
  have hgt : ∀ T ∈ ts, h2.objs.size < T := fun T hT => by
    obtain ⟨j, hj⟩ := List.getElem?_of_mem hT
    exact (tu j T hj).2
  have lz : (ns.zip ms).length = ts.length := by rw [lts, List.length_zip]; simp; omega
  have prd : Paired (fun (T : Addr) (p : Pair) => ∃ t u, IsPair h3 T (.int p.1 t) (.int p.2 u)) ts (ns.zip ms) := by
    refine paired_of lz.symm fun j T pr e1 e2 => ?_
    obtain ⟨⟨x, y, hx, hy, hp⟩, _⟩ := tu j T e1
    have hx' : its[j]? = some x := by simpa using hx
    have hy' : jts[j]? = some y := by simpa using hy
    rw [List.getElem?_zip_eq_some] at e2
    obtain ⟨t, et⟩ := ints_at hi e2.1
    obtain ⟨u, eu⟩ := ints_at hj e2.2
    rw [et] at hx'
    rw [eu] at hy'
    cases hx'
    cases hy'
    exact ⟨t, u, hp⟩
  obtain ⟨H', I', s', prs, kf⟩ := track_pairs prd H1 I3 (fun T hT => our T (by have := hgt T hT; omega)) nd
  have nS : h2.objs.size ∉ ts := fun z => Nat.lt_irrefl _ (hgt _ z)
  have oS := our h2.objs.size (by omega)
  have fS : H' h2.objs.size = none := by rw [kf _ nS]; exact oS.free
  have vs : Vals (ts.map V.ref) acc.toList := by
    rw [ea]
    have go : ∀ ts : List Addr, Vals (ts.map V.ref) (ts.map Value.ref) := fun ts => by
      induction ts with
      | nil => exact .nil
      | cons T ts ih => exact .cons rfl ih
    exact go ts
  have I4 := I'.trackO (o' := .lst (ts.map V.ref)) ⟨oS.new, fS, oS.loc, oS.cell, oS.pin⟩ ⟨by rw [List.length_map, lts]; simp; exact sz (by omega), acc.toList, c, vs, hl⟩
  exact ⟨.ref h2.objs.size, _, I4, rfl, q _ _ (s'.trans (Same.new (Same.refl H') fS _)) oS.free ⟨_, upd_same, prs.updN fS _⟩⟩
end
end L2
set_option Elab.async false
set_option linter.all false
set_option maxRecDepth 100000
set_option maxHeartbeats 4000000
namespace Ck
open PySem L2
theorem map_int_inj : ∀ {r s : List Int}, r.map V.int = s.map V.int → r = s
  | [], [], _ => rfl
  | a :: r, b :: s, h => by
    rw [List.map_cons, List.map_cons] at h
    injection h with h1 h2
    injection h1 with h1
    rw [h1, map_int_inj h2]
noncomputable def voidB (o : Option HO) : Bool := match o with | some (.lst []) => true | _ => false
theorem voidB_row (r : List Int) : voidB (some (.lst (r.map V.int))) = decide (r = []) := by
  cases r with
  | nil => rfl
  | cons a r => rw [decide_eq_false (by simp)]; rfl
end Ck
namespace L2
open PySem PySem.Spec PyProof.Rows Ck
theorem call_sortedK {X : Cx} {K : PySem.W.Frag} (hK : X.K = K) : CallR X (.builtin "sorted") (fun xs H Q => ∃ (p : Addr) (ns : List Int), xs = [.ref p] ∧ SqL K H p (ns.map V.int) ∧ ns.length < 64 ∧ ∀ (q : Addr) (ms : List Int), H q = none → ms.Perm ns → ms.Pairwise (· ≤ ·) → Q (.ref q) (upd H q (.lst (ms.map V.int)))) := by
  subst hK
  exact call_sorted
noncomputable def rInE : R2 := fun x y H Q => ∃ (a l : Addr) (H0 : Hp) (rs : List (List Int)), x = .ref a ∧ y = .ref l ∧ H a = some (.lst []) ∧ LLs H0 H l rs ∧ Q (.bl (rs.any fun r => decide (r = []))) H
theorem op_inE {X : Cx} (hu : X.A.units + 100 < cLine) : OpR X (compareOp .In) rInE := by
  intro pins s σ H x y u v Q I ru rv h
  obtain ⟨a, l, H0, rs, rfl, rfl, ha, ⟨bs, hl, ro, nd⟩, q⟩ := h
  cases (show u = Value.ref _ from ru)
  cases (show v = Value.ref _ from rv)
  obtain ⟨its, r', pl, hz⟩ := I.list (SqL.of hl)
  have ei : its = bs.map Value.ref := by
    have go : ∀ (bs : List Addr) (us : List Value), Vals (bs.map V.ref) us → us = bs.map Value.ref := fun bs => by
      induction bs with
      | nil => intro us h; rw [List.map_nil] at h; cases h; rfl
      | cons b bs ih =>
        intro us h
        rw [List.map_cons] at h
        cases h with
        | cons h t => rw [ih _ t, List.map_cons]; cases (show _ = Value.ref b from h); rfl
    exact go bs its r'
  have one : ∀ (b : Addr) (r : List Int), H b = some (.lst (r.map V.int)) → EqD X.K H 1 (.ref b) (.ref a) (decide (r = [])) := fun b r hb => by
    by_cases e : b = a
    · subst e
      rw [ha] at hb
      have : r = [] := by
        injection hb with hb; injection hb with hb
        exact List.map_eq_nil_iff.mp hb.symm
      rw [decide_eq_true this]
      exact EqD.same
    · have := EqD.void (K := X.K) (n := 0) e (SqL.of hb) (SqL.of ha)
      have e2 : decide (r.map V.int = []) = decide (r = []) := by
        cases r <;> simp
      rw [e2] at this
      exact this
  have ex : ∀ (bs : List Addr) (rs : List (List Int)), RoomsAt H0 H l bs rs → ∃ e : Value → Bool, (∀ y ∈ bs.map Value.ref, ∃ (b : Addr) (r : List Int), y = .ref b ∧ H b = some (.lst (r.map V.int)) ∧ e y = decide (r = [])) ∧ (bs.map Value.ref).any e = rs.any fun r => decide (r = []) := fun bs rs ro => by
    refine ⟨fun y => match y with | .ref b => voidB (H b) | _ => false, ?_, ?_⟩
    · intro y hy
      obtain ⟨b, hb, rfl⟩ := List.mem_map.mp hy
      obtain ⟨⟨ns, e⟩, _⟩ := ro.all b hb
      refine ⟨b, ns, rfl, e, ?_⟩
      show voidB (H b) = _
      rw [e, voidB_row]
    · induction ro with
      | nil => rfl
      | cons h _ ih =>
        rw [List.map_cons, List.any_cons, List.any_cons, ih]
        congr 1
        show voidB (H _) = _
        rw [h.1, voidB_row]
  obtain ⟨e, e1, e2⟩ := ex bs rs ro
  refine SeqAt.in_listAt (items := its.toArray) e pl.isList (fun y hy => ?_) ⟨.bl _, H, I, rfl, ?_⟩
  · have hy' : y ∈ bs.map Value.ref := by rw [ei] at hy; simpa using hy
    obtain ⟨b, r, rfl, hb, e3⟩ := e1 y hy'
    rw [e3]
    exact (one b r hb).at_ (A := X.A.in1) (by show X.A.units + 1 + 1 < cLine; omega) I rfl rfl
  · rw [ei, List.any_toArray, e2]
    exact q
end L2
namespace Ck
open PySem L2
theorem EqD.ints {K : PySem.W.Frag} {H : Hp} {n : Nat} {a b : Addr} {r s : List Int} (ha : H a = some (.lst (r.map V.int))) (hb : H b = some (.lst (s.map V.int))) : EqD K H (n + 1) (.ref a) (.ref b) (decide (r = s)) := by
  by_cases e : a = b
  · subst e
    rw [ha] at hb
    have : r = s := by
      injection hb with hb; injection hb with hb
      exact map_int_inj hb
    rw [decide_eq_true this]
    exact EqD.same
  by_cases hl : r.length = s.length
  · have h := EqD.lst (K := K) (n := n) (e := fun j => decide (r.getD j 0 = s.getD j 0)) e (SqL.of ha) (SqL.of hb) (by simp [hl]) (fun j x y hx hy => by
      obtain ⟨c, rfl⟩ := get_int hx
      obtain ⟨d, rfl⟩ := get_int hy
      rw [List.getElem?_map] at hx hy
      have ec : r.getD j 0 = c := by
        rw [List.getD_eq_getElem?_getD]
        cases h : r[j]? with
        | none => rw [h] at hx; cases hx
        | some z => rw [h] at hx; injection hx with hx; injection hx
      have ed : s.getD j 0 = d := by
        rw [List.getD_eq_getElem?_getD]
        cases h : s[j]? with
        | none => rw [h] at hy; cases hy
        | some z => rw [h] at hy; injection hy with hy; injection hy
      have z := EqD.flat (K := K) (H := H) (n := n) (x := V.int c) (y := V.int d) rfl rfl
      rw [ec, ed]
      have e3 : eqV (V.int c) (V.int d) = decide (c = d) := rfl
      rw [e3] at z
      exact z)
    have e2 : (List.range (r.map V.int).length).all (fun j => decide (r.getD j 0 = s.getD j 0)) = decide (r = s) := by
      rw [Bool.eq_iff_iff, List.all_eq_true, decide_eq_true_iff]
      constructor
      · intro h
        refine List.ext_getElem hl fun k h1 h2 => ?_
        have := of_decide_eq_true (h k (List.mem_range.mpr (by simpa using h1)))
        rw [List.getD_eq_getElem?_getD, List.getD_eq_getElem?_getD, List.getElem?_eq_getElem h1, List.getElem?_eq_getElem h2] at this
        exact this
      · intro h k _
        rw [h]
        exact decide_eq_true rfl
    rw [e2] at h
    exact h
  · rw [decide_eq_false fun z => hl (by rw [z])]
    exact EqD.lstN e (SqL.of ha) (SqL.of hb) (by simpa using hl)
theorem EqD.rooms {K : PySem.W.Frag} {H0 H1 H : Hp} {a b : Addr} {rs ss : List (List Int)} (h : LLs H0 H a rs) (k : LLs H1 H b ss) (ne : a ≠ b) : EqD K H 2 (.ref a) (.ref b) (decide (rs = ss)) := by
  obtain ⟨xs, ex, lx⟩ := h.len
  obtain ⟨ys, ey, ly⟩ := k.len
  by_cases hl : rs.length = ss.length
  · have d := EqD.lst (K := K) (n := 1) (e := fun j => decide (rs.getD j [] = ss.getD j [])) ne (SqL.of ex) (SqL.of ey) (by omega) (fun j x y e1 e2 => by
      have hj : j < rs.length := by rw [← lx]; exact (List.getElem?_eq_some_iff.mp e1).1
      obtain ⟨c, f1, g1, _⟩ := h.get ex (List.getElem?_eq_getElem hj)
      obtain ⟨d, f2, g2, _⟩ := k.get ey (List.getElem?_eq_getElem (show j < ss.length by omega))
      rw [f1] at e1
      rw [f2] at e2
      cases e1
      cases e2
      rw [List.getD_eq_getElem?_getD, List.getD_eq_getElem?_getD, List.getElem?_eq_getElem hj, List.getElem?_eq_getElem (show j < ss.length by omega)]
      exact EqD.ints g1 g2)
    have e : (List.range xs.length).all (fun j => decide (rs.getD j [] = ss.getD j [])) = decide (rs = ss) := by
      rw [Bool.eq_iff_iff, List.all_eq_true, decide_eq_true_iff]
      constructor
      · intro h
        refine List.ext_getElem hl fun k h1 h2 => ?_
        have := of_decide_eq_true (h k (List.mem_range.mpr (by omega)))
        rw [List.getD_eq_getElem?_getD, List.getD_eq_getElem?_getD, List.getElem?_eq_getElem h1, List.getElem?_eq_getElem h2] at this
        exact this
      · intro h k _
        rw [h]
        exact decide_eq_true rfl
    rw [e] at d
    exact d
  · rw [decide_eq_false fun z => hl (by rw [z])]
    exact EqD.lstN ne (SqL.of ex) (SqL.of ey) (by omega)
end Ck
namespace Ck
open PySem L2
noncomputable def nbs (rs : List (List Int)) : List Pair := (rs.map fun r => r.zip (r.drop 1)).flatten
noncomputable def risR (rs : List (List Int)) : Bool := decide ((∀ r ∈ rs, r.Pairwise (· < ·)) ∧ (rs.map hd).Pairwise (· < ·))
noncomputable def isRooms (rs : List (List Int)) : Bool := rs.all (fun r => decide (r ≠ [])) && (eachB rs.flatten && (risR rs && !crossB (nbs rs)))
theorem isR_void {rs : List (List Int)} (h : ∃ r ∈ rs, r = []) : isRooms rs = false := by
  obtain ⟨r, hr, e⟩ := h
  unfold isRooms
  have : rs.all (fun r => decide (r ≠ [])) = false := List.all_eq_false.mpr ⟨r, hr, by simp [e]⟩
  rw [this, Bool.false_and]
theorem isR_each {rs : List (List Int)} (h : eachB rs.flatten = false) : isRooms rs = false := by
  unfold isRooms
  rw [h]
  simp
theorem isR_rest {rs : List (List Int)} (hne : ∀ r ∈ rs, r ≠ []) (hE : eachB rs.flatten = true) : isRooms rs = (risR rs && !crossB (nbs rs)) := by
  unfold isRooms
  have : rs.all (fun r => decide (r ≠ [])) = true := List.all_eq_true.mpr fun r hr => decide_eq_true (hne r hr)
  rw [this, hE, Bool.true_and, Bool.true_and]
theorem flat_nodup {rs : List (List Int)} (hE : eachB rs.flatten = true) : rs.flatten.Nodup := ((eachB_iff _).mp hE).nodup_iff.mpr (rgI_nd _)
theorem nd_flat : ∀ {rs : List (List Int)}, rs.flatten.Nodup → (∀ r ∈ rs, r.Nodup) ∧ rs.Pairwise fun a b => ∀ x ∈ a, x ∉ b
  | [], _ => ⟨fun r hr => absurd hr (by simp), List.Pairwise.nil⟩
  | r :: rs, h => by
    rw [List.flatten_cons, List.nodup_append] at h
    obtain ⟨h1, h2, h3⟩ := h
    obtain ⟨i1, i2⟩ := nd_flat h2
    refine ⟨fun q hq => ?_, .cons (fun q hq x hx hx' => h3 x hx x (List.mem_flatten.mpr ⟨q, hq, hx'⟩) rfl) i2⟩
    rcases List.mem_cons.mp hq with z | z
    · rw [z]; exact h1
    · exact i1 q z
theorem nodup_room {rs : List (List Int)} (h : rs.flatten.Nodup) {r : List Int} (hr : r ∈ rs) : r.Nodup := by
  exact (nd_flat h).1 r hr
theorem ltL_heads {a b : List Int} (ha : a ≠ []) (hb : b ≠ []) (h : ltL b a = false) (ne : hd a ≠ hd b) : hd a < hd b := by
  cases a with
  | nil => exact absurd rfl ha
  | cons x a =>
    cases b with
    | nil => exact absurd rfl hb
    | cons y b =>
      have ne' : x ≠ y := ne
      show x < y
      have h' : (if y = x then ltL b a else decide (y < x)) = false := h
      rw [if_neg (fun z => ne' z.symm)] at h'
      have := of_decide_eq_false h'
      omega
theorem ltL_of_heads {a b : List Int} (ha : a ≠ []) (hb : b ≠ []) (h : hd a < hd b) : ltL b a = false := by
  cases a with
  | nil => exact absurd rfl ha
  | cons x a =>
    cases b with
    | nil => exact absurd rfl hb
    | cons y b =>
      have h' : x < y := h
      show (if y = x then ltL b a else decide (y < x)) = false
      rw [if_neg (by omega)]
      exact decide_eq_false (by omega)
theorem heads_ne {rs : List (List Int)} (hne : ∀ r ∈ rs, r ≠ []) (h : rs.flatten.Nodup) : rs.Pairwise fun a b => hd a ≠ hd b := by
  exact (nd_flat h).2.imp_of_mem fun ha hb hd' e => by
    have h1 := hd_mem (hne _ ha)
    have h2 := hd_mem (hne _ hb)
    rw [← e] at h2
    exact hd' _ h1 h2
theorem sorted_lt {r : List Int} (h : r.Pairwise (· ≤ ·)) (nd : r.Nodup) : r.Pairwise (· < ·) := by
  have := List.Pairwise.and h nd
  exact this.imp fun ⟨h1, h2⟩ => by omega
theorem isR_sort {rs ts ss : List (List Int)} (hts : Paired (fun (r q : List Int) => q.Perm r ∧ q.Pairwise (· ≤ ·)) rs ts) (hp : ss.Perm ts) (hs : ss.Pairwise fun a b => ltL b a = false) (hne : ∀ r ∈ rs, r ≠ []) (hE : eachB rs.flatten = true) : decide (rs = ss) = risR rs := by
  have nd := flat_nodup hE
  unfold risR
  rw [Bool.eq_iff_iff, decide_eq_true_iff, decide_eq_true_iff]
  constructor
  · intro e
    constructor
    · intro r hr
      have h1 : r ∈ ts := hp.mem_iff.mp (e ▸ hr)
      have go : ∀ {rs ts : List (List Int)}, Paired (fun (r q : List Int) => q.Perm r ∧ q.Pairwise (· ≤ ·)) rs ts → ∀ q ∈ ts, q.Pairwise (· ≤ ·) := by
        intro rs ts h
        induction h with
        | nil => intro q hq; cases hq
        | cons x _ ih =>
          intro q hq
          rcases List.mem_cons.mp hq with z | z
          · rw [z]; exact x.2
          · exact ih q z
      exact sorted_lt (go hts r h1) (nodup_room nd hr)
    · rw [List.pairwise_map]
      rw [← e] at hs
      exact (hs.and (heads_ne hne nd)).imp_of_mem fun ha hb ⟨h1, h2⟩ => ltL_heads (hne _ ha) (hne _ hb) h1 h2
  · rintro ⟨h1, h2⟩
    have et : ts = rs := by
      have go : ∀ {rs ts : List (List Int)}, Paired (fun (r q : List Int) => q.Perm r ∧ q.Pairwise (· ≤ ·)) rs ts → (∀ r ∈ rs, r.Pairwise (· < ·)) → ts = rs := by
        intro rs ts h
        induction h with
        | nil => intro _; rfl
        | cons x _ ih =>
          intro hr
          rw [ih fun r hr' => hr r (List.mem_cons_of_mem _ hr')]
          congr 1
          exact List.Perm.eq_of_pairwise (le := (· ≤ ·)) (fun a b _ _ h1 h2 => Int.le_antisymm h1 h2) x.2 ((hr _ (List.mem_cons_self ..)).imp Int.le_of_lt) x.1
      exact go hts h1
    rw [et] at hp
    rw [List.pairwise_map] at h2
    have h2' : rs.Pairwise fun a b => ltL b a = false := h2.imp_of_mem fun ha hb h => ltL_of_heads (hne _ ha) (hne _ hb) h
    exact (List.Perm.eq_of_pairwise (le := fun a b => ltL b a = false) (fun a b _ _ h1 h2 => ltL_anti a b h2 h1) hs h2' hp).symm
theorem gap : ∀ {r : List Int} {u v t : Int}, r.Pairwise (· < ·) → u ∈ r → v ∈ r → u < t → t < v → t ∉ r → ∃ p ∈ r.zip (r.drop 1), u ≤ p.1 ∧ p.1 < t ∧ t < p.2 ∧ p.2 ≤ v
  | [], u, v, t, _, hu, _, _, _, _ => by cases hu
  | [x], u, v, t, _, hu, hv, h1, h2, _ => by
    have e1 : u = x := by simpa using hu
    have e2 : v = x := by simpa using hv
    omega
  | x :: y :: r, u, v, t, hp, hu, hv, h1, h2, h3 => by
    have hp' := List.pairwise_cons.mp hp
    have hy := List.pairwise_cons.mp hp'.2
    have tx : t ≠ x := fun z => h3 (by rw [z]; simp)
    have ty : t ≠ y := fun z => h3 (by rw [z]; simp)
    by_cases c : t < y
    · -- the step is the first one
      have ux : u = x := by
        rcases List.mem_cons.mp hu with z | z
        · exact z
        · rcases List.mem_cons.mp z with z | z
          · omega
          · have := hy.1 u z; omega
      have vy : y ≤ v := by
        rcases List.mem_cons.mp hv with z | z
        · omega
        · rcases List.mem_cons.mp z with z | z
          · omega
          · have := hy.1 v z; omega
      exact ⟨(x, y), by simp, by show u ≤ x; omega, by show x < t; omega, c, vy⟩
    · have hv' : v ∈ y :: r := by
        rcases List.mem_cons.mp hv with z | z
        · have := hp'.1 y (by simp); omega
        · exact z
      have hu' : ∃ u', u' ∈ y :: r ∧ u ≤ u' ∧ u' < t := by
        rcases List.mem_cons.mp hu with z | z
        · exact ⟨y, by simp, by have := hp'.1 y (by simp); omega, by omega⟩
        · exact ⟨u, z, Int.le_refl _, h1⟩
      obtain ⟨u', m1, m2, m3⟩ := hu'
      obtain ⟨p, hp1, q1, q2, q3, q4⟩ := gap hp'.2 m1 hv' m3 h2 (fun z => h3 (List.mem_cons_of_mem _ z))
      exact ⟨p, by simp only [List.drop_succ_cons, List.drop_zero] at hp1 ⊢; exact List.mem_cons_of_mem _ hp1, by omega, q2, q3, q4⟩
theorem mem_nbs {rs : List (List Int)} {p : Pair} : p ∈ nbs rs ↔ ∃ r ∈ rs, p ∈ r.zip (r.drop 1) := by
  unfold nbs
  rw [List.mem_flatten]
  constructor
  · rintro ⟨l, hl, hp⟩
    obtain ⟨r, hr, rfl⟩ := List.mem_map.mp hl
    exact ⟨r, hr, hp⟩
  · rintro ⟨r, hr, hp⟩
    exact ⟨_, List.mem_map.mpr ⟨r, hr, rfl⟩, hp⟩
theorem zip_idx {r : List Int} {p : Pair} (h : p ∈ r.zip (r.drop 1)) : ∃ k, k + 1 < r.length ∧ p.1 = r.getD k 0 ∧ p.2 = r.getD (k + 1) 0 := by
  obtain ⟨k, hk⟩ := List.getElem?_of_mem h
  rw [List.getElem?_zip_eq_some] at hk
  obtain ⟨h1, h2⟩ := hk
  rw [List.getElem?_drop] at h2
  have hl := (List.getElem?_eq_some_iff.mp h2).1
  refine ⟨k, by omega, ?_, ?_⟩
  · rw [List.getD_eq_getElem?_getD, h1]; rfl
  · rw [List.getD_eq_getElem?_getD, show k + 1 = 1 + k by omega, h2]; rfl
theorem idx_zip {r : List Int} {k : Nat} (h : k + 1 < r.length) : (r.getD k 0, r.getD (k + 1) 0) ∈ r.zip (r.drop 1) := by
  refine List.mem_of_getElem? (i := k) ?_
  rw [List.getElem?_zip_eq_some]
  refine ⟨?_, ?_⟩
  · rw [List.getD_eq_getElem?_getD, List.getElem?_eq_getElem (show k < r.length by omega)]; rfl
  · show (r.drop 1)[k]? = some (r.getD (k + 1) 0)
    rw [List.getElem?_drop, show 1 + k = k + 1 by omega, List.getD_eq_getElem?_getD, List.getElem?_eq_getElem h]
    rfl
noncomputable abbrev lst (r : List Int) : Int := r.getD (r.length - 1) 0
theorem lst_mem {r : List Int} (h : r ≠ []) : lst r ∈ r := by
  have : r.length - 1 < r.length := by
    cases r with
    | nil => exact absurd rfl h
    | cons a r => simp
  unfold lst
  rw [List.getD_eq_getElem?_getD, List.getElem?_eq_getElem this]
  exact List.getElem_mem this
theorem lst_ge {r : List Int} (h : r.Pairwise (· < ·)) {x : Int} (hx : x ∈ r) : x ≤ lst r := by
  obtain ⟨i, hi, e⟩ := List.getElem_of_mem hx
  unfold lst
  rw [List.getD_eq_getElem?_getD, List.getElem?_eq_getElem (show r.length - 1 < r.length by omega)]
  by_cases z : i = r.length - 1
  · subst z; rw [← e]; exact Int.le_refl _
  · have := List.pairwise_iff_getElem.mp h i (r.length - 1) hi (by omega) (by omega)
    rw [← e]
    exact Int.le_of_lt this
theorem one_room {rs : List (List Int)} (nd : rs.flatten.Nodup) {i j : Nat} {r r' : List Int} {x : Int} (hi : rs[i]? = some r) (hj : rs[j]? = some r') (h1 : x ∈ r) (h2 : x ∈ r') : i = j := by
  have p := List.pairwise_iff_getElem.mp (nd_flat nd).2
  obtain ⟨li, ei⟩ := List.getElem?_eq_some_iff.mp hi
  obtain ⟨lj, ej⟩ := List.getElem?_eq_some_iff.mp hj
  rcases Nat.lt_trichotomy i j with h | h | h
  · have := p i j li lj h
    rw [ei, ej] at this
    exact absurd h2 (this _ h1)
  · exact h
  · have := p j i lj li h
    rw [ei, ej] at this
    exact absurd h1 (this _ h2)
theorem out_cross {rs : List (List Int)} (inc : ∀ r ∈ rs, r.Pairwise (· < ·)) (hne : ∀ r ∈ rs, r ≠ []) (nd : rs.flatten.Nodup) {i j k : Nat} {r R : List Int} {m : Int} (hi : rs[i]? = some r) (hj : rs[j]? = some R) (hk : k + 1 < r.length) (h1 : r.getD k 0 < m) (h2 : m < r.getD (k + 1) 0) (hm : m ∈ R)
    (bad : hd R < r.getD k 0 ∨ r.getD (k + 1) 0 < lst R) : crossB (nbs rs) = true := by
  have mr := List.mem_of_getElem? hi
  have mR := List.mem_of_getElem? hj
  have stp := idx_zip hk
  have inr := inc r mr
  have inR := inc R mR
  have xr : ∀ q, q < r.length → r.getD q 0 ∈ r := fun q hq => by rw [List.getD_eq_getElem?_getD, List.getElem?_eq_getElem hq]; exact List.getElem_mem hq
  have ne : i ≠ j := fun e => by
    subst e
    rw [hi] at hj
    cases hj
    obtain ⟨q, hq, e⟩ := List.getElem_of_mem hm
    have lt := List.pairwise_iff_getElem.mp inr
    rw [List.getD_eq_getElem?_getD, List.getElem?_eq_getElem (show k < r.length by omega)] at h1
    rw [List.getD_eq_getElem?_getD, List.getElem?_eq_getElem hk] at h2
    have h1 : r[k] < m := h1
    have h2 : m < r[k + 1] := h2
    rw [← e] at h1 h2
    by_cases c1 : q ≤ k
    · by_cases c : q = k
      · subst c; omega
      · have := lt q k hq (by omega) (by omega); omega
    · by_cases c : q = k + 1
      · subst c; omega
      · have := lt (k + 1) q hk hq (by omega); omega
  have nR : ∀ q, q < r.length → r.getD q 0 ∉ R := fun q hq z => ne (one_room nd hi hj (xr q hq) z)
  refine crossB_iff.mpr ?_
  rcases bad with b | b
  · obtain ⟨p, hp, q1, q2, q3, q4⟩ := gap inR (hd_mem (hne R mR)) hm b h1 (nR k (by omega))
    exact ⟨p, mem_nbs.mpr ⟨R, mR, hp⟩, _, mem_nbs.mpr ⟨r, mr, stp⟩, q2, q3, by show p.2 < r.getD (k + 1) 0; omega⟩
  · obtain ⟨p, hp, q1, q2, q3, q4⟩ := gap inR hm (lst_mem (hne R mR)) h2 b (nR (k + 1) hk)
    exact ⟨_, mem_nbs.mpr ⟨r, mr, stp⟩, p, mem_nbs.mpr ⟨R, mR, hp⟩, by show r.getD k 0 < p.1; omega, q2, q3⟩
theorem zip_mem {r : List Int} {p : Pair} (h : p ∈ r.zip (r.drop 1)) : p.1 ∈ r ∧ p.2 ∈ r := by
  obtain ⟨k, hk, e1, e2⟩ := zip_idx h
  rw [e1, e2, List.getD_eq_getElem?_getD, List.getD_eq_getElem?_getD, List.getElem?_eq_getElem (show k < r.length by omega), List.getElem?_eq_getElem hk]
  exact ⟨List.getElem_mem _, List.getElem_mem _⟩
theorem no_cross {rs : List (List Int)} (inc : ∀ r ∈ rs, r.Pairwise (· < ·)) (ok : ∀ (i j k : Nat) (r R : List Int) (m : Int), rs[i]? = some r → rs[j]? = some R → k + 1 < r.length → r.getD k 0 < m → m < r.getD (k + 1) 0 → m ∈ R → ¬ r.getD (k + 1) 0 < lst R) : crossB (nbs rs) = false := by
  cases e : crossB (nbs rs) with
  | false => rfl
  | true =>
    obtain ⟨p, hp, q, hq, h1, h2, h3⟩ := crossB_iff.mp e
    obtain ⟨r, hr, pr⟩ := mem_nbs.mp hp
    obtain ⟨R, hR, qR⟩ := mem_nbs.mp hq
    obtain ⟨k, hk, e1, e2⟩ := zip_idx pr
    obtain ⟨i, hi⟩ := List.getElem?_of_mem hr
    obtain ⟨j, hj⟩ := List.getElem?_of_mem hR
    obtain ⟨m1, m2⟩ := zip_mem qR
    have := lst_ge (inc R hR) m2
    exact absurd (show r.getD (k + 1) 0 < lst R by omega) (ok i j k r R q.1 hi hj hk (by omega) (by omega) m1)
structure Clm (rs : List (List Int)) (p : List Nat) (k : Nat) : Prop where
  up : p.Pairwise fun a b => lst (rs.getD a []) < lst (rs.getD b [])
  far : ∀ q ∈ nbs rs, q.2 < (k : Int)
  str : ∀ m ∈ p, ∀ q ∈ nbs rs, ¬ (q.1 < lst (rs.getD m []) ∧ lst (rs.getD m []) < q.2)
  no : ∀ a ∈ nbs rs, ∀ b ∈ nbs rs, ¬ (a.1 < b.1 ∧ b.1 < a.2 ∧ a.2 < b.2)
theorem lst_snoc (r : List Int) (k : Int) : lst (r ++ [k]) = k := by
  unfold lst
  rw [List.getD_eq_getElem?_getD, List.length_append, List.getElem?_append_right (by simp)]
  simp
theorem zip_snoc {r : List Int} (h : r ≠ []) (k : Int) : (r ++ [k]).zip ((r ++ [k]).drop 1) = r.zip (r.drop 1) ++ [(lst r, k)] := by
  induction r with
  | nil => exact absurd rfl h
  | cons a r ih =>
    cases r with
    | nil => rfl
    | cons b r =>
      have := ih (by simp)
      show (a, b) :: ((b :: r) ++ [k]).zip (((b :: r) ++ [k]).drop 1) = (a, b) :: (b :: r).zip ((b :: r).drop 1) ++ [(lst (a :: b :: r), k)]
      rw [this]
      rfl
theorem nbs_snoc (rs : List (List Int)) (k : Int) : nbs (rs ++ [[k]]) = nbs rs := by
  unfold nbs
  rw [List.map_append, List.flatten_append]
  simp
theorem nbs_set {k : Int} : ∀ {rs : List (List Int)} {m : Nat} {r : List Int}, rs[m]? = some r → r ≠ [] → ∀ q : Pair, q ∈ nbs (rs.set m (r ++ [k])) ↔ q ∈ nbs rs ∨ q = (lst r, k) := by
  intro rs m r hm hr q
  obtain ⟨lm, em⟩ := List.getElem?_eq_some_iff.mp hm
  rw [mem_nbs, mem_nbs]
  constructor
  · rintro ⟨x, hx, hq⟩
    rcases List.mem_or_eq_of_mem_set hx with z | z
    · exact .inl ⟨x, z, hq⟩
    · rw [z, zip_snoc hr, List.mem_append] at hq
      rcases hq with z | z
      · exact .inl ⟨r, List.mem_of_getElem? hm, z⟩
      · exact .inr (by simpa using z)
  · have hin : r ++ [k] ∈ rs.set m (r ++ [k]) := List.mem_of_getElem? (i := m) (by rw [List.getElem?_set_self lm])
    rintro (⟨x, hx, hq⟩ | e)
    · by_cases ex : x = r
      · exact ⟨_, hin, by rw [zip_snoc hr, List.mem_append]; exact .inl (by rw [← ex]; exact hq)⟩
      · obtain ⟨j, lj, ej⟩ := List.getElem_of_mem hx
        have nj : m ≠ j := fun z => ex (by subst z; rw [← ej, em])
        exact ⟨x, List.mem_of_getElem? (i := j) (by rw [List.getElem?_set_ne nj, List.getElem?_eq_getElem lj, ej]), hq⟩
    · exact ⟨_, hin, by rw [zip_snoc hr, List.mem_append]; exact .inr (by rw [e]; simp)⟩
theorem Rom.calm {rs : List (List Int)} {p : List Nat} {k : Nat} (h : Rom rs p k) : Clm rs p k := by
  induction h with
  | start => exact ⟨List.Pairwise.nil, fun q hq => absurd hq (by simp [nbs]), fun m hm => absurd hm (by simp), fun a ha => absurd ha (by simp [nbs])⟩
  | @shut rs p m k h ih =>
    obtain ⟨h1, h2, h3, h4⟩ := ih
    exact ⟨(List.pairwise_append.mp h1).1, h2, fun x hx => h3 x (by simp [hx]), h4⟩
  | @opn rs p k h ih =>
    obtain ⟨h1, h2, h3, h4⟩ := ih
    obtain ⟨l1, l2, l3, l4⟩ := h.lens
    have rm := h.rms
    have old : ∀ m ∈ p, (rs ++ [[(k : Int)]]).getD m [] = rs.getD m [] := fun m hm => by
      rw [List.getD_eq_getElem?_getD, List.getElem?_append_left (l2 m hm), List.getD_eq_getElem?_getD]
    have new : (rs ++ [[(k : Int)]]).getD rs.length [] = [(k : Int)] := by
      rw [List.getD_eq_getElem?_getD, List.getElem?_append_right (Nat.le_refl _)]
      simp
    have lk : ∀ m ∈ p, lst (rs.getD m []) < (k : Int) := fun m hm => by
      have hr : rs.getD m [] ∈ rs := by
        rw [List.getD_eq_getElem?_getD, List.getElem?_eq_getElem (l2 m hm)]
        exact List.getElem_mem _
      exact (rm.rng hr (lst_mem (rm.ne _ hr))).2
    refine ⟨?_, ?_, ?_, ?_⟩
    · refine List.pairwise_append.mpr ⟨h1.imp_of_mem fun ha hb h => by rw [old _ ha, old _ hb]; exact h, List.pairwise_singleton .., fun a ha b hb => ?_⟩
      have e : b = rs.length := by simpa using hb
      subst e
      rw [old a ha, new]
      exact lk a ha
    · intro q hq
      rw [nbs_snoc] at hq
      have := h2 q hq
      omega
    · intro m hm q hq
      rw [nbs_snoc] at hq
      rcases List.mem_append.mp hm with z | z
      · rw [old m z]
        exact h3 m z q hq
      · have e : m = rs.length := by simpa using z
        subst e
        rw [new]
        have := h2 q hq
        show ¬ (q.1 < (k : Int) ∧ (k : Int) < q.2)
        omega
    · rw [nbs_snoc]
      exact h4
  | @put rs p m k r h hr ih =>
    obtain ⟨h1, h2, h3, h4⟩ := ih
    obtain ⟨l1, l2, l3, l4⟩ := h.lens
    have rm := h.rms
    have lm := l2 m (by simp)
    have rne : r ≠ [] := rm.ne r (List.mem_of_getElem? hr)
    have er : rs.getD m [] = r := by rw [List.getD_eq_getElem?_getD, hr]; rfl
    have lrk : lst r < (k : Int) := (rm.rng (List.mem_of_getElem? hr) (lst_mem rne)).2
    obtain ⟨u1, _, u3⟩ := List.pairwise_append.mp h1
    have low : ∀ a ∈ p, lst (rs.getD a []) < lst r := fun a ha => by have := u3 a ha m (by simp); rw [er] at this; exact this
    have ne : ∀ a ∈ p, m ≠ a := fun a ha e => by
      have := low a ha
      rw [← e, er] at this
      omega
    have old : ∀ a ∈ p, (rs.set m (r ++ [(k : Int)])).getD a [] = rs.getD a [] := fun a ha => by
      rw [List.getD_eq_getElem?_getD, List.getElem?_set_ne (ne a ha), List.getD_eq_getElem?_getD]
    have new : (rs.set m (r ++ [(k : Int)])).getD m [] = r ++ [(k : Int)] := by
      rw [List.getD_eq_getElem?_getD, List.getElem?_set_self lm]
      rfl
    have mem := nbs_set (k := (k : Int)) hr rne
    refine ⟨?_, ?_, ?_, ?_⟩
    · refine List.pairwise_append.mpr ⟨u1.imp_of_mem fun ha hb h => by rw [old _ ha, old _ hb]; exact h, List.pairwise_singleton .., fun a ha b hb => ?_⟩
      have e : b = m := by simpa using hb
      subst e
      rw [old a ha, new, lst_snoc]
      have := low a ha
      omega
    · intro q hq
      rcases (mem q).mp hq with z | z
      · have := h2 q z; omega
      · rw [z]
        show (k : Int) < ((k + 1 : Nat) : Int)
        omega
    · intro a ha q hq
      rcases List.mem_append.mp ha with z | z
      · rw [old a z]
        rcases (mem q).mp hq with w | w
        · exact h3 a (by simp [z]) q w
        · have := low a z
          rw [w]
          show ¬ (lst r < _ ∧ _)
          omega
      · have e : a = m := by simpa using z
        subst e
        rw [new, lst_snoc]
        rcases (mem q).mp hq with w | w
        · have := h2 q w
          omega
        · rw [w]
          show ¬ (lst r < (k : Int) ∧ (k : Int) < (k : Int))
          omega
    · intro a ha b hb
      rcases (mem a).mp ha with wa | wa
      · rcases (mem b).mp hb with wb | wb
        · exact h4 a wa b wb
        · have := h3 m (by simp) a wa
          rw [er] at this
          rw [wb]
          show ¬ (a.1 < lst r ∧ lst r < a.2 ∧ a.2 < (k : Int))
          omega
      · rcases (mem b).mp hb with wb | wb
        · have := h2 b wb
          rw [wa]
          show ¬ (lst r < b.1 ∧ b.1 < (k : Int) ∧ (k : Int) < b.2)
          omega
        · rw [wa, wb]
          show ¬ (lst r < lst r ∧ _)
          omega
theorem iota_rgI (k : Nat) : iota k = rgI k := rfl
theorem Rom.rooms {rs : List (List Int)} {p : List Nat} {k : Nat} (h : Rom rs p k) : isRooms rs = true := by
  have rm := h.rms
  have c := h.calm
  have hE : eachB rs.flatten = true := (eachB_iff _).mpr (by
    have e := rm.flat.length_eq
    rw [iota_rgI, rgI_len] at e
    rw [e]
    exact rm.flat)
  rw [isR_rest rm.ne hE, Bool.and_eq_true]
  refine ⟨decide_eq_true ⟨rm.inc, rm.heads⟩, ?_⟩
  cases e : crossB (nbs rs) with
  | false => rfl
  | true =>
    obtain ⟨a, ha, b, hb, x1, x2, x3⟩ := crossB_iff.mp e
    exact absurd ⟨x1, x2, x3⟩ (c.no a ha b hb)
theorem isRooms_snoc (rs : List (List Int)) : isRooms (rs ++ [[]]) = false := isR_void ⟨[], by simp, rfl⟩
end Ck
namespace L2
open PySem PySem.Spec PyProof.Rows Ck
theorem len_dict {X : Cx} : CallR X (.builtin "len") (fun xs H Q => ∃ (d : Addr) (ps : List (Key × V)), xs = [.ref d] ∧ H d = some (.dK ps) ∧ Q (.int (ps.length : Int)) H) := by
  intro pins s σ H xs us Q I rel h
  obtain ⟨d, ps, rfl, hd, q⟩ := h
  obtain ⟨u, rfl, ru⟩ := vals1 rel
  cases ru
  exact d_len I (.inl hd) fun t' s2 I2 => ⟨.int (ps.length : Int), H, I2, ⟨t', rfl⟩, q⟩
end L2
namespace Ck
open PySem L2
theorem paired_app {α β : Type} {R : α → β → Prop} : ∀ {as cs : List α} {bs ds : List β}, Paired R as bs → Paired R cs ds → Paired R (as ++ cs) (bs ++ ds)
  | _, _, _, _, .nil, h => h
  | _, _, _, _, .cons r t, h => .cons r (paired_app t h)
noncomputable def RwsAt (H : Hp) (bs : List Addr) (xss : List (List V)) : Prop := Paired (fun (b : Addr) (xs : List V) => H b = some (.lst xs)) bs xss
theorem RwsAt.same {H H' : Hp} {bs : List Addr} {xss : List (List V)} (h : RwsAt H bs xss) (s : Same H H') : RwsAt H' bs xss := Paired.mapP h fun _ _ e => s _ _ e
theorem RwsAt.get {H : Hp} : ∀ {bs : List Addr} {xss : List (List V)}, RwsAt H bs xss → ∀ {j : Nat} {v : V}, (bs.map V.ref)[j]? = some v → ∃ b xs, v = .ref b ∧ xss[j]? = some xs ∧ H b = some (.lst xs)
  | _, _, .nil, j, v, e => by simp at e
  | _, _, .cons r t, 0, v, e => ⟨_, _, (by simpa using e.symm), rfl, r⟩
  | _, _, .cons r t, j + 1, v, e => by
    obtain ⟨b, xs, h1, h2, h3⟩ := RwsAt.get t (j := j) (by simpa using e)
    exact ⟨b, xs, h1, by simpa using h2, h3⟩
theorem LLs.rws {H0 H : Hp} {a : Addr} {rs : List (List Int)} (h : LLs H0 H a rs) : ∃ bs : List Addr, H a = some (.lst (bs.map V.ref)) ∧ RwsAt H bs (rs.map fun r => r.map V.int) := by
  obtain ⟨bs, e, r, _⟩ := h
  refine ⟨bs, e, ?_⟩
  have go : ∀ {bs : List Addr} {rs : List (List Int)}, RoomsAt H0 H a bs rs → RwsAt H bs (rs.map fun r => r.map V.int) := by
    intro bs rs r
    induction r with
    | nil => exact .nil
    | cons x _ ih => exact .cons x.1 ih
  exact go r
theorem RwsAt.len {H : Hp} {bs : List Addr} {xss : List (List V)} (h : RwsAt H bs xss) : bs.length = xss.length := Paired.length h
theorem flat_map (rs : List (List Int)) : (rs.map fun r => r.map V.int).flatten = rs.flatten.map V.int := by
  rw [List.map_flatten]
end Ck
namespace Ck
open PySem L2
theorem isR_ris {rs : List (List Int)} (h : ¬ ((∀ r ∈ rs, r.Pairwise (· < ·)) ∧ (rs.map hd).Pairwise (· < ·))) : isRooms rs = false := by
  unfold isRooms risR
  rw [decide_eq_false h]
  simp
theorem isR_twice {rs : List (List Int)} (h : ¬ rs.flatten.Nodup) : isRooms rs = false := isR_each (by
  cases e : eachB rs.flatten with
  | false => rfl
  | true => exact absurd (flat_nodup e) h)
theorem isR_gone {rs : List (List Int)} {k : Nat} (hk : k < rs.flatten.length) (h : (k : Int) ∉ rs.flatten) : isRooms rs = false := isR_each (by
  cases e : eachB rs.flatten with
  | false => rfl
  | true => exact absurd (((eachB_iff _).mp e).mem_iff.mpr (mem_rgI.mpr ⟨by omega, by omega⟩)) h)
theorem perm_sub : ∀ (as l : List Int), as.Nodup → (∀ x ∈ as, x ∈ l) → as.length = l.length → l.Perm as
  | [], l, _, _, hl => by
    have : l = [] := List.eq_nil_of_length_eq_zero hl.symm
    rw [this]
  | a :: as, l, nd, hs, hl => by
    rw [List.nodup_cons] at nd
    have ha := hs a (List.mem_cons_self ..)
    have p := List.perm_cons_erase ha
    have le := p.length_eq
    refine p.trans (List.Perm.cons _ (perm_sub as (l.erase a) nd.2 (fun x hx => ?_) ?_))
    · have hx' := hs x (List.mem_cons_of_mem _ hx)
      have ne : x ≠ a := fun z => nd.1 (by rw [← z]; exact hx)
      exact (List.mem_erase_of_ne ne).mpr hx'
    · rw [List.length_cons] at hl le
      omega
theorem each_all {fl : List Int} (h : ∀ k : Nat, k < fl.length → (k : Int) ∈ fl) : eachB fl = true := (eachB_iff _).mpr (perm_sub _ _ (rgI_nd _) (fun x hx => by
  have := mem_rgI.mp hx
  have := h x.toNat (by omega)
  rw [show ((x.toNat : Nat) : Int) = x by omega] at this
  exact this) (rgI_len _))
structure Hm (rs : List (List Int)) (fl : List Int) (kvs : List (Key × V)) : Prop where
  len : kvs.length = fl.length
  nd : fl.Nodup
  has : ∀ m ∈ fl, ∃ (j : Nat) (r : List Int), valV kvs (.inl m) = some (.int (j : Int)) ∧ rs[j]? = some r ∧ m ∈ r
  no : ∀ m : Int, m ∉ fl → valV kvs (.inl m) = none
theorem Hm.nil (rs : List (List Int)) : Hm rs [] [] := ⟨rfl, List.nodup_nil, fun m hm => absurd hm (by simp), fun _ _ => rfl⟩
theorem Hm.put {rs : List (List Int)} {fl : List Int} {kvs : List (Key × V)} {m : Int} {j : Nat} {r : List Int} (h : Hm rs fl kvs) (hm : m ∉ fl) (hj : rs[j]? = some r) (mr : m ∈ r) : Hm rs (fl ++ [m]) (putK kvs (.inl m) (.int (j : Int))) := by
  refine ⟨?_, ?_, fun x hx => ?_, fun x hx => ?_⟩
  · rw [putK_new _ (h.no m hm), List.length_append, List.length_append, h.len]
    rfl
  · exact nd_snoc h.nd hm
  · by_cases e : x = m
    · subst e
      exact ⟨j, r, by rw [valV_put, if_pos rfl], hj, mr⟩
    · have hx' : x ∈ fl := by
        rcases List.mem_append.mp hx with z | z
        · exact z
        · exact absurd (by simpa using z) e
      obtain ⟨i, R, e1, e2, e3⟩ := h.has x hx'
      exact ⟨i, R, by rw [valV_put, if_neg (fun z => e (by injection z))]; exact e1, e2, e3⟩
  · have e : x ≠ m := fun z => hx (by rw [z]; simp)
    rw [valV_put, if_neg (fun z => e (by injection z))]
    exact h.no x fun z => hx (by simp [z])
theorem Hm.dup {rs : List (List Int)} {fl : List Int} {kvs : List (Key × V)} {m : Int} (h : Hm rs fl kvs) : (valV kvs (.inl m)).isSome = decide (m ∈ fl) := by
  by_cases e : m ∈ fl
  · obtain ⟨j, r, e1, _⟩ := h.has m e
    rw [e1, decide_eq_true e]
    rfl
  · rw [h.no m e, decide_eq_false e]
    rfl
theorem flat_pre {rs : List (List Int)} {i a : Nat} {r : List Int} (hi : rs[i]? = some r) (ha : a ≤ r.length) : ∃ z, rs.flatten = (rs.take i).flatten ++ r.take a ++ z := by
  obtain ⟨li, ei⟩ := List.getElem?_eq_some_iff.mp hi
  refine ⟨r.drop a ++ (rs.drop (i + 1)).flatten, ?_⟩
  conv => lhs; rw [← List.take_append_drop i rs, List.drop_eq_getElem_cons li, ei, List.flatten_append, List.flatten_cons]
  rw [List.append_assoc, ← List.append_assoc (r.take a), List.take_append_drop]
theorem flat_take {rs : List (List Int)} {i : Nat} {r : List Int} (hi : rs[i]? = some r) : (rs.take (i + 1)).flatten = (rs.take i).flatten ++ r := by
  rw [List.take_add_one, hi, List.flatten_append]
  simp
theorem take_get {r : List Int} {a : Nat} (h : a < r.length) : r.take (a + 1) = r.take a ++ [r.getD a 0] := by
  rw [List.take_add_one, List.getElem?_eq_getElem h, List.getD_eq_getElem?_getD, List.getElem?_eq_getElem h]
  rfl
theorem adj_lt {r : List Int} (h : ∀ a, a + 1 < r.length → r.getD a 0 < r.getD (a + 1) 0) : r.Pairwise (· < ·) := by
  refine List.pairwise_iff_getElem.mpr fun i j hi hj hij => ?_
  have e : ∀ q (hq : q < r.length), r.getD q 0 = r[q] := fun q hq => by rw [List.getD_eq_getElem?_getD, List.getElem?_eq_getElem hq]; rfl
  have go : ∀ d, ∀ (hd : i + d + 1 < r.length), r[i] < r[i + d + 1] := fun d => by
    induction d with
    | zero =>
      intro hd
      have := h i (by omega)
      rw [e i hi, e (i + 1) (by omega)] at this
      exact this
    | succ d ih =>
      intro hd
      have h1 := ih (by omega)
      have h2 := h (i + d + 1) (by omega)
      rw [e (i + d + 1) (by omega), e (i + d + 1 + 1) (by omega)] at h2
      exact Int.lt_trans h1 h2
  have := go (j - i - 1) (by omega)
  have ej : i + (j - i - 1) + 1 = j := by omega
  simp only [ej] at this
  exact this
theorem lt_adj {r : List Int} (h : r.Pairwise (· < ·)) {a : Nat} (ha : a + 1 < r.length) : r.getD a 0 < r.getD (a + 1) 0 := by
  have := List.pairwise_iff_getElem.mp h a (a + 1) (by omega) ha (by omega)
  rw [List.getD_eq_getElem?_getD, List.getD_eq_getElem?_getD, List.getElem?_eq_getElem (show a < r.length by omega), List.getElem?_eq_getElem ha]
  exact this
theorem heads_get (rs : List (List Int)) (i : Nat) : (rs.map hd).getD i 0 = hd (rs.getD i []) := by
  rw [List.getD_eq_getElem?_getD, List.getElem?_map, List.getD_eq_getElem?_getD]
  cases rs[i]? with
  | none => rfl
  | some r => rfl
end Ck
namespace Ck
open PySem L2
theorem RoomsAt.sets {H0 H : Hp} {a b : Addr} {ns : List Int} (hb : H b = some (.lst (ns.map V.int)) ∧ H0 b = none ∧ b ≠ a) : ∀ {bs : List Addr} {rs : List (List Int)} (j : Nat), RoomsAt H0 H a bs rs → RoomsAt H0 H a (bs.set j b) (rs.set j ns)
  | _, _, _, .nil => .nil
  | _, _, 0, .cons _ t => .cons hb t
  | _, _, j + 1, .cons r t => .cons r (RoomsAt.sets hb j t)
theorem RoomsAt.gone {H0 H : Hp} {a : Addr} : ∀ {bs : List Addr} {rs : List (List Int)} (j : Nat), RoomsAt H0 H a bs rs → RoomsAt H0 H a (bs.eraseIdx j) (rs.eraseIdx j)
  | _, _, _, .nil => .nil
  | _, _, 0, .cons _ t => t
  | _, _, j + 1, .cons r t => .cons r (RoomsAt.gone j t)
theorem RoomsAt.take {H0 H : Hp} {a : Addr} : ∀ {bs : List Addr} {rs : List (List Int)} (k : Nat), RoomsAt H0 H a bs rs → RoomsAt H0 H a (bs.take k) (rs.take k)
  | _, _, 0, _ => .nil
  | _, _, _ + 1, .nil => .nil
  | _, _, k + 1, .cons r t => .cons r (RoomsAt.take k t)
theorem RoomsAt.drop {H0 H : Hp} {a : Addr} : ∀ {bs : List Addr} {rs : List (List Int)} (k : Nat), RoomsAt H0 H a bs rs → RoomsAt H0 H a (bs.drop k) (rs.drop k)
  | _, _, 0, h => h
  | _, _, _ + 1, .nil => .nil
  | _, _, k + 1, .cons _ t => RoomsAt.drop k t
theorem RoomsAt.self {H0 H : Hp} {a : Addr} {o : HO} {bs : List Addr} {rs : List (List Int)} (r : RoomsAt H0 H a bs rs) : RoomsAt H0 (upd H a o) a bs rs := r.updC fun b hb => (r.all b hb).2.2
theorem RoomsAt.fresh {H0 H : Hp} {a b : Addr} {bs : List Addr} {rs : List (List Int)} (r : RoomsAt H0 H a bs rs) (hb : H b = none) : b ∉ bs := fun z => by
  obtain ⟨⟨ns, e⟩, _⟩ := r.all b z
  rw [hb] at e
  cases e
theorem RoomsAt.same {H0 H H' : Hp} {a : Addr} {bs : List Addr} {rs : List (List Int)} (r : RoomsAt H0 H a bs rs) (s : Same H H') : RoomsAt H0 H' a bs rs := Paired.mapP r fun _ _ ⟨p, q⟩ => ⟨s _ _ p, q⟩
theorem LLs.exch {H0 H H' : Hp} {a b : Addr} {rs : List (List Int)} {xs : List V} {ns : List Int} (h : LLs H0 H a rs) (hx : H a = some (.lst xs)) (s : Same H H') (fb : H b = none) (hb : H' b = some (.lst (ns.map V.int))) (h0 : H0 b = none) (j : Nat) :
    LLs H0 (upd H' a (.lst (xs.set j (.ref b)))) a (rs.set j ns) := by
  obtain ⟨bs, e, r, n⟩ := h
  rw [hx] at e
  cases e
  have ne : b ≠ a := fun z => by rw [z, hx] at fb; cases fb
  refine ⟨bs.set j b, by rw [upd_same, List.map_set], ((r.same s).sets ⟨hb, h0, ne⟩ j).self, ?_⟩
  by_cases hj : j < bs.length
  · have nb := r.fresh fb
    rw [List.set_eq_take_append_cons_drop, if_pos hj]
    have p := n
    rw [← List.take_append_drop j bs, List.drop_eq_getElem_cons hj, List.nodup_append] at p
    obtain ⟨p1, p2, p3⟩ := p
    rw [List.nodup_cons] at p2
    refine List.nodup_append.mpr ⟨p1, List.nodup_cons.mpr ⟨fun z => nb (List.mem_of_mem_drop z), p2.2⟩, fun c hc d hd => ?_⟩
    rcases List.mem_cons.mp hd with z | z
    · rw [z]
      exact fun w => nb (List.mem_of_mem_take (w ▸ hc))
    · exact p3 c hc d (List.mem_cons_of_mem _ z)
  · rw [List.set_eq_of_length_le (by omega)]
    exact n
theorem LLs.putIn {H0 H H' : Hp} {a b : Addr} {rs : List (List Int)} {xs : List V} {ns : List Int} (h : LLs H0 H a rs) (hx : H a = some (.lst xs)) (s : Same H H') (fb : H b = none) (hb : H' b = some (.lst (ns.map V.int))) (h0 : H0 b = none) (g : Int) :
    LLs H0 (upd H' a (.lst (insAt xs g (.ref b)))) a (rs.take (insK xs.length g) ++ ns :: rs.drop (insK xs.length g)) := by
  obtain ⟨bs, e, r, n⟩ := h
  rw [hx] at e
  cases e
  have ne : b ≠ a := fun z => by rw [z, hx] at fb; cases fb
  have r' := r.same s
  have nb := r.fresh fb
  have ei : insAt (bs.map V.ref) g (.ref b) = (bs.take (insK (bs.map V.ref).length g) ++ b :: bs.drop (insK (bs.map V.ref).length g)).map V.ref := by
    unfold insAt
    rw [List.map_append, List.map_cons, List.map_take, List.map_drop]
  rw [ei]
  generalize insK (bs.map V.ref).length g = k
  refine ⟨bs.take k ++ b :: bs.drop k, ?_, RoomsAt.self (rooms_app (r'.take k) (.cons ⟨hb, h0, ne⟩ (r'.drop k))), ?_⟩
  · rw [upd_same]
  · have p := n
    rw [← List.take_append_drop k bs, List.nodup_append] at p
    obtain ⟨p1, p2, p3⟩ := p
    refine List.nodup_append.mpr ⟨p1, List.nodup_cons.mpr ⟨fun z => nb (List.mem_of_mem_drop z), p2⟩, fun c hc d hd => ?_⟩
    rcases List.mem_cons.mp hd with z | z
    · rw [z]
      exact fun w => nb (List.mem_of_mem_take (w ▸ hc))
    · exact p3 c hc d z
theorem LLs.out {H0 H : Hp} {a : Addr} {rs : List (List Int)} {xs : List V} (h : LLs H0 H a rs) (hx : H a = some (.lst xs)) (j : Nat) : LLs H0 (upd H a (.lst (xs.eraseIdx j))) a (rs.eraseIdx j) := by
  obtain ⟨bs, e, r, n⟩ := h
  rw [hx] at e
  cases e
  exact ⟨bs.eraseIdx j, by rw [upd_same, map_erase], (r.gone j).self, n.sublist (List.eraseIdx_sublist _ _)⟩
theorem LLs.swap2 {H0 H : Hp} {a b c : Addr} {rs : List (List Int)} {xs : List V} {i j : Nat} {r s : List Int} (h : LLs H0 H a rs) (hx : H a = some (.lst xs)) (hi : rs[i]? = some r) (hj : rs[j]? = some s) (xi : xs[i]? = some (.ref b)) (xj : xs[j]? = some (.ref c)) :
    LLs H0 (upd (upd H a (.lst (xs.set i (.ref c)))) a (.lst ((xs.set i (.ref c)).set j (.ref b)))) a ((rs.set i s).set j r) := by
  obtain ⟨bs, e, ro, n⟩ := h
  rw [hx] at e
  cases e
  have gb : bs[i]? = some b := by
    rw [List.getElem?_map] at xi
    cases q : bs[i]? with
    | none => rw [q] at xi; cases xi
    | some z => rw [q] at xi; injection xi with xi; injection xi with xi; rw [xi]
  have gc : bs[j]? = some c := by
    rw [List.getElem?_map] at xj
    cases q : bs[j]? with
    | none => rw [q] at xj; cases xj
    | some z => rw [q] at xj; injection xj with xj; injection xj with xj; rw [xj]
  obtain ⟨b', e1, f1⟩ := ro.get hi
  obtain ⟨c', e2, f2⟩ := ro.get hj
  rw [gb] at e1
  rw [gc] at e2
  cases e1
  cases e2
  obtain ⟨li, ei⟩ := List.getElem?_eq_some_iff.mp gb
  obtain ⟨lj, ej⟩ := List.getElem?_eq_some_iff.mp gc
  refine ⟨(bs.set i c).set j b, by rw [upd_same, List.map_set, List.map_set], ((RoomsAt.sets f1 j (RoomsAt.sets f2 i ro)).self).self, ?_⟩
  have p : ((bs.set i c).set j b).Perm bs := by
    have := List.set_set_perm (as := bs) (i := i) (j := j) li lj
    rw [ei, ej] at this
    exact this
  exact p.nodup_iff.mpr n
theorem flat_set_len {ms : List Int} : ∀ {rs : List (List Int)} {j : Nat} {r : List Int}, rs[j]? = some r → (rs.set j ms).flatten.length + r.length = rs.flatten.length + ms.length
  | [], j, r, h => by simp at h
  | q :: rs, 0, r, h => by
    have e : q = r := by simpa using h
    subst e
    show (ms ++ rs.flatten).length + q.length = (q ++ rs.flatten).length + ms.length
    simp only [List.length_append]
    omega
  | q :: rs, j + 1, r, h => by
    have := flat_set_len (ms := ms) (rs := rs) (j := j) (r := r) (by simpa using h)
    show (q ++ (rs.set j ms).flatten).length + r.length = (q ++ rs.flatten).length + ms.length
    simp only [List.length_append]
    omega
theorem flat_out_len : ∀ (rs : List (List Int)) (j : Nat), (rs.eraseIdx j).flatten.length ≤ rs.flatten.length
  | [], j => Nat.le_refl _
  | q :: rs, 0 => by show rs.flatten.length ≤ (q ++ rs.flatten).length; rw [List.length_append]; omega
  | q :: rs, j + 1 => by
    have := flat_out_len rs j
    show (q ++ (rs.eraseIdx j).flatten).length ≤ (q ++ rs.flatten).length
    simp only [List.length_append]
    omega
theorem flat_in_len (rs : List (List Int)) (k : Nat) (ns : List Int) : (rs.take k ++ ns :: rs.drop k).flatten.length = rs.flatten.length + ns.length := by
  conv => rhs; rw [← List.take_append_drop k rs]
  simp only [List.flatten_append, List.flatten_cons, List.length_append]
  omega
theorem flat_filter_len (f : List Int → Bool) : ∀ rs : List (List Int), (rs.filter f).flatten.length ≤ rs.flatten.length
  | [] => Nat.le_refl _
  | q :: rs => by
    have := flat_filter_len f rs
    rw [List.filter_cons]
    split
    · simp only [List.flatten_cons, List.length_append]; omega
    · simp only [List.flatten_cons, List.length_append]; omega
theorem flat_perm_len {rs ss : List (List Int)} (h : ss.Perm rs) : ss.flatten.length = rs.flatten.length := h.flatten.length_eq
end Ck
set_option Elab.async false
set_option linter.all false
set_option maxRecDepth 100000
namespace Ck
open PySem PySem.W PySem.Calls PyProof.Rows
noncomputable def endLook {α : Type} (p q : Program) (loose : List Str) (Xt : Shared → Bool) (Yf : Shared → α) (h0 : Heap) (s : Shared) :=
  ((staticsOk (importedModules p.main.body) h0 s.heap && namesBound p s.heap && gensDone s && laidKept h0 s.heap),
    openSeen q loose (importedModules p.main.body) Xt true s, Yf s)
theorem left_whole {p q : Program} {loose : List Str} {Xt : Shared → Bool} {α : Type} {Yf : Shared → α} {Ya : World → α} {N M m : Nat} {H : Params → Heap} {gs : Array GenState} {dr : Drawn} {tk : Nat} {an : Option Value}
    (o : ∀ w : World, (fencedOpening treeTable p w N).map (fun s => (s.heap, s.gens, s.drawn, s.toks)) = some (H w.params, gs, dr, tk))
    (z : ∀ w : World, ((H w.params).isNs mainGlobals && gs.size == 0, (H w.params).objs.size, (H w.params).nsMap mainGlobals "__annotations__") = (true, m, an))
    (r : ∀ (w : World) (os : OsState), ∃ e, topRun treeTable p w m an M ⟨H w.params, gs, dr, tk, os⟩ (topStub p) = some e ∧ endLook p q loose Xt Yf (H w.params) e = (true, openGood q loose, Ya w))
    (le : M ≤ N) : LeftO p q loose Xt Yf Ya N := by
  intro w
  have ow := o w
  cases hf : fencedOpening treeTable p w N with
  | none => rw [hf] at ow; cases ow
  | some s =>
    rw [hf] at ow
    have os := Option.some.inj ow
    have e1 : s.heap = H w.params := congrArg Prod.fst os
    have e2 : s.gens = gs := congrArg (fun x => x.2.1) os
    have e3 : s.drawn = dr := congrArg (fun x => x.2.2.1) os
    have e4 : s.toks = tk := congrArg (fun x => x.2.2.2) os
    obtain ⟨e, run, look⟩ := r w s.os
    have hs : s = ⟨H w.params, gs, dr, tk, s.os⟩ := by rw [← e1, ← e2, ← e3, ← e4]
    have run' := topRun_mono (N - M) _ _ _ _ run
    rw [Nat.add_sub_cancel' le] at run'
    have zw := z w
    have z1 := congrArg Prod.fst zw
    have z2 := congrArg (fun x => x.2.1) zw
    have z3 := congrArg (fun x => x.2.2) zw
    dsimp only at z1 z2 z3
    have l1 := congrArg Prod.fst look
    have l2 := congrArg Prod.snd look
    have tf : topFrom treeTable p w N s = some e := by
      rw [hs]
      unfold topFrom
      dsimp only
      rw [z1, z2, z3, run']
      unfold endLook at l1
      dsimp only at l1
      dsimp only [Option.bind]
      rw [l1]
    unfold openEnds
    rw [hf, Option.bind_some, tf]
    exact congrArg some l2
section
variable {tb : String → Option Builtin} {p : Program} {w : World} {m : Nat} {an : Option Value} {env : Env} {q : Pos}
noncomputable def lookEnd {β : Type} (tb : String → Option Builtin) (p : Program) (w : World) (m : Nat) (an : Option Value) (q : Pos) (c : Code) (n4 : Nat) (L : Shared → β) (r : Flow × SharedT × Code × Pos) : Flow × Code × Option β :=
  (r.1, r.2.2.1, (topRun tb p w m an n4 r.2.1.abs ⟨doneF .next, c, r.2.2.2, [topFrame q]⟩).map L)
theorem run_whole {β : Type} {L : Shared → β} {b : List Stmt} {c : Code} {n1 n2 n3 n4 : Nat} {S0 Sa : Shared} {Sb : SharedT} {pos0 pos1 : Pos} {z : β} (hc : c = .body b env)
    (h1 : topGo tb p w m an n1 S0 (topStub p) = some (Sa, ⟨denote tb c, c, pos0, [topFrame q]⟩))
    (h2 : segRun tb p w m an 1 n2 Sa (blockOf b env c pos0 [topFrame q]) = some (.next, Sb.abs, c, pos1))
    (h3 : (segRunT tb p w m an 1 n3 Sb (piecesOf b env c pos1 [topFrame q])).map (lookEnd tb p w m an q c n4 L) = some (.next, c, some z)) :
    ∃ e, topRun tb p w m an (n1 + (n2 + (n3 + n4))) S0 (topStub p) = some e ∧ L e = z := by
  cases hr : segRunT tb p w m an 1 n3 Sb (piecesOf b env c pos1 [topFrame q]) with
  | none => rw [hr] at h3; cases h3
  | some x =>
    obtain ⟨f, s, d, ps⟩ := x
    rw [hr] at h3
    have h3 := Option.some.inj h3
    unfold lookEnd at h3
    have a1 : f = .next := congrArg Prod.fst h3
    have a2 : d = c := congrArg (fun x => x.2.1) h3
    have a3 := congrArg (fun x => x.2.2) h3
    dsimp only at a3
    subst a1 a2 hc
    cases ht : topRun tb p w m an n4 s.abs ⟨doneF .next, .body b env, ps, [topFrame q]⟩ with
    | none => rw [ht] at a3; cases a3
    | some e =>
      rw [ht] at a3
      have k := piece_app (rest := []) (segRun_of hr) (piece_nil ht)
      rw [List.append_nil] at k
      exact ⟨e, go_top h1 (piece_block h2 k), Option.some.inj a3⟩
end
end Ck
set_option maxHeartbeats 4000000
namespace Ck
open PySem L2
noncomputable def top (i : Nat) : Stmt := PySem.Challenge.pw_countkin_k16_rooms_looked_at.main.body.getD i (.Pass ⟨0, 0, 0, 0⟩)
structure ClA where
  C_Rooms : Addr
  C_SplitFamily : Addr
  C_Family : Addr
  f_Rooms__Family___init__ : Addr
  f_Rooms__SplitFamily___init__ : Addr
  f_Rooms____init__ : Addr
  f_Rooms__is_one : Addr
  f_Rooms__Family_refuse_other : Addr
  f_Rooms__Family_number_of : Addr
  f_Rooms__Family_next_of : Addr
  f_Rooms__size_of : Addr
structure ClOk (K : PySem.W.Frag) (mg : Str → Option Value) (ca : ClA) : Prop where
  m_Rooms : mg "Rooms" = some (.ref ca.C_Rooms)
  m_SplitFamily : mg "SplitFamily" = some (.ref ca.C_SplitFamily)
  m_Family : mg "Family" = some (.ref ca.C_Family)
  c_Rooms : Cls K ca.C_Rooms
  mt_Rooms_is_one : Meth K ca.C_Rooms "is_one" ca.f_Rooms__is_one
  mt_Rooms_size_of : Meth K ca.C_Rooms "size_of" ca.f_Rooms__size_of
  mt_Rooms_number_of : Meth K ca.C_Rooms "number_of" ca.f_Rooms__Family_number_of
  mt_Rooms_next_of : Meth K ca.C_Rooms "next_of" ca.f_Rooms__Family_next_of
  mt_Rooms_refuse_other : Meth K ca.C_Rooms "refuse_other" ca.f_Rooms__Family_refuse_other
  mk_Rooms : Mk K ca.C_Rooms ca.f_Rooms____init__
  cm_SplitFamily___init___Rooms : ClsM K ca.C_SplitFamily "__init__" ca.f_Rooms__SplitFamily___init__
  cm_Family___init___Rooms : ClsM K ca.C_Family "__init__" ca.f_Rooms__Family___init__
  na_Rooms_word : NoAttr K ca.C_Rooms "word"
  na_Rooms_least : NoAttr K ca.C_Rooms "least"
noncomputable abbrev s__law_draws : Stmt := top 20
theorem sc__law_draws : FnScope ["_law_script", "_law_turn", "_law_many", "_law_cells", "_law_found", "_law_left", "_law_k", "_law_at", "_law_place", "_law_number_here"] ["_law_script", "_law_turn", "_law_many"] (defScope s__law_draws) := ⟨rfl, rfl, rfl, by decide +kernel, rfl, by decide +kernel, by decide +kernel⟩
noncomputable abbrev s__law_rooms : Stmt := top 22
theorem sc__law_rooms : FnScope ["_law_script", "_law_size", "_law_turn", "_law_draws_here", "_law_lean", "_law_out", "_law_rooms_here", "_law_pile", "_law_k", "_law_j"] ["_law_script", "_law_size", "_law_turn"] (defScope s__law_rooms) := ⟨rfl, rfl, rfl, by decide +kernel, rfl, by decide +kernel, by decide +kernel⟩
noncomputable abbrev s__law_cell_at : Stmt := top 19
theorem sc__law_cell_at : FnScope ["_law_script", "_law_k"] ["_law_script", "_law_k"] (defScope s__law_cell_at) := ⟨rfl, rfl, rfl, by decide +kernel, rfl, by decide +kernel, by decide +kernel⟩
noncomputable abbrev s__law_copy : Stmt := top 23
theorem sc__law_copy : FnScope ["_law_rooms_here"] ["_law_rooms_here"] (defScope s__law_copy) := ⟨rfl, rfl, rfl, by decide +kernel, rfl, by decide +kernel, by decide +kernel⟩
noncomputable abbrev s__law_moved : Stmt := top 25
theorem sc__law_moved : FnScope ["_law_rooms_here", "_law_at", "_law_place", "_law_to", "_law_number_here"] ["_law_rooms_here", "_law_at", "_law_place", "_law_to"] (defScope s__law_moved) := ⟨rfl, rfl, rfl, by decide +kernel, rfl, by decide +kernel, by decide +kernel⟩
noncomputable abbrev s__law_number : Stmt := top 21
theorem sc__law_number : FnScope ["_law_draw", "_law_cell", "_law_top"] ["_law_draw", "_law_cell", "_law_top"] (defScope s__law_number) := ⟨rfl, rfl, rfl, by decide +kernel, rfl, by decide +kernel, by decide +kernel⟩
noncomputable abbrev s__law_changed : Stmt := top 26
theorem sc__law_changed : FnScope ["_law_rooms_here", "_law_draws_here", "_law_far", "_law_turn", "_law_at", "_law_to", "_law_place", "_law_room", "_law_step"] ["_law_rooms_here", "_law_draws_here", "_law_far", "_law_turn"] (defScope s__law_changed) := ⟨rfl, rfl, rfl, by decide +kernel, rfl, by decide +kernel, by decide +kernel⟩
noncomputable abbrev s__law_dealt : Stmt := top 24
theorem sc__law_dealt : FnScope ["_law_script", "_law_draws_here", "_law_rooms_here", "_law_k"] ["_law_script"] (defScope s__law_dealt) := ⟨rfl, rfl, rfl, by decide +kernel, rfl, by decide +kernel, by decide +kernel⟩
noncomputable abbrev s__law_homes : Stmt := top 27
theorem sc__law_homes : FnScope ["_law_rooms_here", "_law_homes_here", "_law_k", "_law_at", "_law_number_here"] ["_law_rooms_here"] (defScope s__law_homes) := ⟨rfl, rfl, rfl, by decide +kernel, rfl, by decide +kernel, by decide +kernel⟩
noncomputable abbrev s__law_stand : Stmt := top 28
theorem sc__law_stand : FnScope ["_law_rooms_here", "_law_homes_here", "_law_room", "_law_at", "_law_number_here", "_law_other"] ["_law_rooms_here"] (defScope s__law_stand) := ⟨rfl, rfl, rfl, by decide +kernel, rfl, by decide +kernel, by decide +kernel⟩
noncomputable abbrev s_Rooms__Family___init__ : Stmt := inClass (top 13) 0
theorem sc_Rooms__Family___init__ : FnScope ["self", "word", "least"] ["self", "word", "least"] (defScope s_Rooms__Family___init__) := ⟨rfl, rfl, rfl, by decide +kernel, rfl, by decide +kernel, by decide +kernel⟩
noncomputable abbrev s_Rooms__SplitFamily___init__ : Stmt := inClass (top 14) 0
theorem sc_Rooms__SplitFamily___init__ : FnScope ["self", "word"] ["self", "word"] (defScope s_Rooms__SplitFamily___init__) := ⟨rfl, rfl, rfl, by decide +kernel, rfl, by decide +kernel, by decide +kernel⟩
noncomputable abbrev s_Rooms____init__ : Stmt := inClass (top 16) 0
theorem sc_Rooms____init__ : FnScope ["self"] ["self"] (defScope s_Rooms____init__) := ⟨rfl, rfl, rfl, by decide +kernel, rfl, by decide +kernel, by decide +kernel⟩
noncomputable abbrev s_each_once : Stmt := top 4
theorem sc_each_once : FnScope ["numbers"] ["numbers"] (defScope s_each_once) := ⟨rfl, rfl, rfl, by decide +kernel, rfl, by decide +kernel, by decide +kernel⟩
noncomputable abbrev s_flat : Stmt := top 3
theorem sc_flat : FnScope ["rows", "found", "row"] ["rows"] (defScope s_flat) := ⟨rfl, rfl, rfl, by decide +kernel, rfl, by decide +kernel, by decide +kernel⟩
noncomputable abbrev s_any_cross : Stmt := top 5
theorem sc_any_cross : FnScope ["pairs", "a", "b", "c", "d"] ["pairs"] (defScope s_any_cross) := ⟨rfl, rfl, rfl, by decide +kernel, rfl, by decide +kernel, by decide +kernel⟩
noncomputable abbrev s_neighbours : Stmt := top 17
theorem sc_neighbours : FnScope ["rooms"] ["rooms"] (defScope s_neighbours) := ⟨rfl, rfl, rfl, by decide +kernel, rfl, by decide +kernel, by decide +kernel⟩
noncomputable abbrev s_Rooms__is_one : Stmt := inClass (top 16) 2
theorem sc_Rooms__is_one : FnScope ["self", "thing"] ["self", "thing"] (defScope s_Rooms__is_one) := ⟨rfl, rfl, rfl, by decide +kernel, rfl, by decide +kernel, by decide +kernel⟩
noncomputable abbrev s_Rooms__Family_refuse_other : Stmt := inClass (top 13) 7
theorem sc_Rooms__Family_refuse_other : FnScope ["self", "thing"] ["self", "thing"] (defScope s_Rooms__Family_refuse_other) := ⟨rfl, rfl, rfl, by decide +kernel, rfl, by decide +kernel, by decide +kernel⟩
noncomputable abbrev s_Rooms__Family_number_of : Stmt := inClass (top 13) 8
theorem sc_Rooms__Family_number_of : FnScope ["self", "thing"] ["self", "thing"] (defScope s_Rooms__Family_number_of) := ⟨rfl, rfl, rfl, by decide +kernel, rfl, by decide +kernel, by decide +kernel⟩
noncomputable abbrev s_Rooms__Family_next_of : Stmt := inClass (top 13) 10
theorem sc_Rooms__Family_next_of : FnScope ["self", "thing", "number", "size"] ["self", "thing"] (defScope s_Rooms__Family_next_of) := ⟨rfl, rfl, rfl, by decide +kernel, rfl, by decide +kernel, by decide +kernel⟩
noncomputable abbrev s__law_refused : Stmt := top 29
theorem sc__law_refused : FnScope ["_law_kin", "_law_rooms_here", "_law_refused_here"] ["_law_kin", "_law_rooms_here"] (defScope s__law_refused) := ⟨rfl, rfl, rfl, by decide +kernel, rfl, by decide +kernel, by decide +kernel⟩
noncomputable abbrev s_Rooms__size_of : Stmt := inClass (top 16) 1
theorem sc_Rooms__size_of : FnScope ["self", "thing"] ["self", "thing"] (defScope s_Rooms__size_of) := ⟨rfl, rfl, rfl, by decide +kernel, rfl, by decide +kernel, by decide +kernel⟩
noncomputable abbrev s_law : Stmt := top 30
theorem sc_law : FnScope ["_law_script", "_law_first", "_law_turn", "_law_rooms_here", "_law_due", "_law_kin", "_law_handed", "_law_found", "_law_many", "_law_size"] ["_law_script"] (defScope s_law) := ⟨rfl, rfl, rfl, by decide +kernel, rfl, by decide +kernel, by decide +kernel⟩
noncomputable def sp__law_draws (K : PySem.W.Frag) (_ : ClA) : Sp := fun vs H Q _ => ∃ (a : Addr) (ns : List Int) (t m : Int), vs = [.ref a, .int t, .int m] ∧ SqL K H a (ns.map V.int) ∧ ns.length ≤ 63 ∧ 0 ≤ t ∧ t ≤ 1000 ∧ 0 ≤ m ∧ m ≤ 1000 ∧
  ∀ (p : Addr) (xs : List Int) (H' : Hp), Same H H' → H p = none → H' p = some (.lst (xs.map V.int)) → xs.length = m.toNat → (∀ x ∈ xs, 0 ≤ x ∧ x < 2147483587) → Q (.ref p) H'
noncomputable def sp__law_rooms (K : PySem.W.Frag) (_ : ClA) : Sp := fun vs H Q _ => ∃ (a : Addr) (ns : List Int) (n : Nat) (t : Int), vs = [.ref a, .int n, .int t] ∧ SqL K H a (ns.map V.int) ∧ ns.length ≤ 63 ∧ n ≤ 40 ∧ 0 ≤ t ∧ t ≤ 900 ∧
  ∀ (p : Addr) (rs : List (List Int)) (op : List Nat) (H' : Hp), Same H H' → H p = none → LLs H H' p rs → Rom rs op n → Q (.ref p) H'
noncomputable def sp__law_cell_at (K : PySem.W.Frag) (_ : ClA) : Sp := fun vs H Q _ => ∃ (a : Addr) (ns : List Int) (k : Int), vs = [.ref a, .int k] ∧ SqL K H a (ns.map V.int) ∧ 0 ≤ k ∧ Q (.int (ns.getD k.toNat 0)) H
noncomputable def sp__law_copy (K : PySem.W.Frag) (_ : ClA) : Sp := fun vs H Q _ => ∃ (l : Addr) (Ha : Hp) (ls : List (List Int)), vs = [.ref l] ∧ LLs Ha H l ls ∧ ls.length ≤ 1000 ∧ ∀ (p : Addr) (H' : Hp), Same H H' → H p = none → LLs H H' p ls → Q (.ref p) H'
noncomputable def sp__law_moved (K : PySem.W.Frag) (_ : ClA) : Sp := fun vs H Q _ => ∃ (l : Addr) (H0 : Hp) (rs : List (List Int)) (i j k : Nat) (r : List Int), vs = [.ref l, .int (i : Int), .int (j : Int), .int (k : Int)] ∧ LLs H0 H l rs ∧ Same H0 H ∧ H0 l = none ∧ rs.length ≤ 40 ∧ rs.flatten.length ≤ 40 ∧ rs[i]? = some r ∧ j < r.length ∧ k < rs.length ∧
  ∀ (p : Addr) (ms : List (List Int)) (H' : Hp), Same H0 H' → H0 p = none → LLs H0 H' p ms → ms.length ≤ 40 → ms.flatten.length ≤ 80 → (∀ r ∈ ms, r.length ≤ 41) → Q (.ref p) H'
noncomputable def sp__law_number (K : PySem.W.Frag) (_ : ClA) : Sp := fun vs H Q _ => ∃ d c t : Int, vs = [.int d, .int c, .int t] ∧ 0 ≤ t ∧ ∀ n : Int, Q (.int n) H
noncomputable def sp__law_changed (K : PySem.W.Frag) (_ : ClA) : Sp := fun vs H Q _ => ∃ (l d : Addr) (H0 : Hp) (rs : List (List Int)) (xs : List Int) (far t : Int), vs = [.ref l, .ref d, .int far, .int t] ∧ LLs H0 H l rs ∧ Same H0 H ∧ H0 l = none ∧ H d = some (.lst (xs.map V.int)) ∧ 0 < rs.length ∧ (∀ r ∈ rs, r ≠ []) ∧ rs.length ≤ 40 ∧ rs.flatten.length ≤ 40 ∧ xs.length = 4 ∧ 2 ≤ t ∧ t ≤ 10 ∧
  ∀ (p : Addr) (ms : List (List Int)) (H' : Hp), Same H0 H' → H0 p = none → LLs H0 H' p ms → ms.length ≤ 41 → ms.flatten.length ≤ 80 → (∀ r ∈ ms, r.length ≤ 41) → Q (.ref p) H'
noncomputable def sp__law_dealt (K : PySem.W.Frag) (_ : ClA) : Sp := fun vs H Q _ => ∃ (a : Addr) (ns : List Int), vs = [.ref a] ∧ SqL K H a (ns.map V.int) ∧ ns.length ≤ 63 ∧
  ∀ (p : Addr) (ms : List (List Int)) (H' : Hp), Same H H' → H p = none → LLs H H' p ms → ms.length ≤ 4 → ms.flatten.length ≤ 8 → Q (.ref p) H'
noncomputable def sp__law_homes (K : PySem.W.Frag) (_ : ClA) : Sp := fun vs H Q _ => ∃ (l : Addr) (H0 : Hp) (rs : List (List Int)), vs = [.ref l] ∧ LLs H0 H l rs ∧ rs.length ≤ 60 ∧ rs.flatten.length ≤ 100 ∧ ∀ H', Same H H' →
  (isRooms rs = false → Q .non H') ∧ ∀ (p : Addr) (kvs : List (Key × V)), H p = none → H' p = some (.dK kvs) → (∀ r ∈ rs, r ≠ []) → (∀ r ∈ rs, r.Pairwise (· < ·)) → (rs.map hd).Pairwise (· < ·) → eachB rs.flatten = true → (∀ m ∈ rs.flatten, ∃ (j : Nat) (r : List Int), valV kvs (.inl m) = some (.int (j : Int)) ∧ rs[j]? = some r ∧ m ∈ r) → Q (.ref p) H'
noncomputable def sp__law_stand (K : PySem.W.Frag) (_ : ClA) : Sp := fun vs H Q _ => ∃ (l : Addr) (H0 : Hp) (rs : List (List Int)), vs = [.ref l] ∧ LLs H0 H l rs ∧ rs.length ≤ 60 ∧ rs.flatten.length ≤ 100 ∧ ∀ H', Same H H' → Q (.bl (isRooms rs)) H'
noncomputable def sp_Rooms__Family___init__ (_ : PySem.W.Frag) (ca : ClA) : Sp := fun vs H Q _ => ∃ (x dx : Addr) (w : Str) (l : Int), vs = [.ref x, .str w, .int l] ∧ H x = some (.ins ca.C_Rooms dx []) ∧ ∀ (fs : List (Str × V)) (H' : Hp), H' = upd H x (.ins ca.C_Rooms dx fs) → Flds fs w l → Q .non H'
noncomputable def sp_Rooms__SplitFamily___init__ (_ : PySem.W.Frag) (ca : ClA) : Sp := fun vs H Q _ => ∃ (x dx : Addr) (w : Str), vs = [.ref x, .str w] ∧ H x = some (.ins ca.C_Rooms dx []) ∧ ∀ (fs : List (Str × V)) (H' : Hp), H' = upd H x (.ins ca.C_Rooms dx fs) → Flds fs w 0 → Q .non H'
noncomputable def sp_Rooms____init__ (_ : PySem.W.Frag) (ca : ClA) : Sp := fun vs H Q _ => ∃ x dx, vs = [.ref x] ∧ H x = some (.ins ca.C_Rooms dx []) ∧ ∀ (fs : List (Str × V)) (H' : Hp), H' = upd H x (.ins ca.C_Rooms dx fs) → Flds fs "rooms" 0 → Q .non H'
noncomputable def sp_each_once (K : PySem.W.Frag) (_ : ClA) : Sp := fun vs H Q _ => ∃ (l : Addr) (ns : List Int), vs = [.ref l] ∧ H l = some (.lst (ns.map V.int)) ∧ ns.length < 128 ∧ ∀ H', Same H H' → Q (.bl (eachB ns)) H'
noncomputable def sp_flat (K : PySem.W.Frag) (_ : ClA) : Sp := fun vs H Q _ => ∃ (l : Addr) (bs : List Addr) (xss : List (List V)), vs = [.ref l] ∧ H l = some (.lst (bs.map V.ref)) ∧ RwsAt H bs xss ∧ xss.flatten.length ≤ 1000 ∧ ∀ (p : Addr) (H' : Hp), Same H H' → H p = none → H' p = some (.lst xss.flatten) → Q (.ref p) H'
noncomputable def sp_any_cross (K : PySem.W.Frag) (_ : ClA) : Sp := fun vs H Q _ => ∃ (l : Addr) (ps : List Pair), vs = [.ref l] ∧ PLs H l ps ∧ Q (.bl (crossB ps)) H
noncomputable def sp_neighbours (K : PySem.W.Frag) (_ : ClA) : Sp := fun vs H Q _ => ∃ (l : Addr) (H0 : Hp) (rs : List (List Int)), vs = [.ref l] ∧ LLs H0 H l rs ∧ rs.length ≤ 100 ∧ rs.flatten.length ≤ 1000 ∧ ∀ (p : Addr) (H' : Hp), Same H H' → H p = none → PLs H' p (nbs rs) → Q (.ref p) H'
noncomputable def sp_Rooms__is_one (K : PySem.W.Frag) (_ : ClA) : Sp := fun vs H Q _ => ∃ (x l : Addr) (H0 : Hp) (rs : List (List Int)), vs = [.ref x, .ref l] ∧ LLs H0 H l rs ∧ rs.length ≤ 60 ∧ rs.flatten.length < 128 ∧ (∀ r ∈ rs, r.length < 64) ∧ ∀ H', Same H H' → Q (.bl (isRooms rs)) H'
noncomputable def sp_Rooms__Family_refuse_other (K : PySem.W.Frag) (ca : ClA) (er : Er1) : Sp := fun vs H Q E => ∃ (x dx : Addr) (fs : List (Str × V)) (l : Addr) (H0 : Hp) (rs : List (List Int)), vs = [.ref x, .ref l] ∧ H x = some (.ins ca.C_Rooms dx fs) ∧ Flds fs "rooms" 0 ∧ LLs H0 H l rs ∧ rs.length ≤ 60 ∧ rs.flatten.length < 128 ∧ (∀ r ∈ rs, r.length < 64) ∧ isRooms rs = false ∧ ∀ H', Same H H' → E (.ref er.thing) none H'
noncomputable def sp_Rooms__Family_number_of (K : PySem.W.Frag) (ca : ClA) (er : Er1) : Sp := fun vs H Q E => ∃ (x dx : Addr) (fs : List (Str × V)) (l : Addr) (H0 : Hp) (rs : List (List Int)), vs = [.ref x, .ref l] ∧ H x = some (.ins ca.C_Rooms dx fs) ∧ Flds fs "rooms" 0 ∧ LLs H0 H l rs ∧ rs.length ≤ 60 ∧ rs.flatten.length < 128 ∧ (∀ r ∈ rs, r.length < 64) ∧ isRooms rs = false ∧ ∀ H', Same H H' → E (.ref er.thing) none H'
noncomputable def sp_Rooms__Family_next_of (K : PySem.W.Frag) (ca : ClA) (er : Er1) : Sp := fun vs H Q E => ∃ (x dx : Addr) (fs : List (Str × V)) (l : Addr) (H0 : Hp) (rs : List (List Int)), vs = [.ref x, .ref l] ∧ H x = some (.ins ca.C_Rooms dx fs) ∧ Flds fs "rooms" 0 ∧ LLs H0 H l rs ∧ rs.length ≤ 60 ∧ rs.flatten.length < 128 ∧ (∀ r ∈ rs, r.length < 64) ∧ isRooms rs = false ∧ ∀ H', Same H H' → E (.ref er.thing) none H'
noncomputable def sp__law_refused (K : PySem.W.Frag) (ca : ClA) (er : Er1) : Sp := fun vs H Q _ => ∃ (x dx : Addr) (fs : List (Str × V)) (l : Addr) (H0 : Hp) (rs : List (List Int)), vs = [.ref x, .ref l] ∧ H x = some (.ins ca.C_Rooms dx fs) ∧ Flds fs "rooms" 0 ∧ LLs H0 H l rs ∧ rs.length ≤ 60 ∧ rs.flatten.length < 128 ∧ (∀ r ∈ rs, r.length < 64) ∧ isRooms rs = false ∧ ∀ H', Same H H' → Q (.bl true) H'
noncomputable def sp_Rooms__size_of (K : PySem.W.Frag) (_ : ClA) : Sp := fun vs H Q _ => ∃ (x l : Addr) (Ha : Hp) (ls : List (List Int)), vs = [.ref x, .ref l] ∧ LLs Ha H l ls ∧ ls.length ≤ 1000 ∧ ∀ H', Same H H' → Q (.int (ls.flatten.length : Int)) H'
noncomputable def sp_law (K : PySem.W.Frag) (_ : ClA) (_ : Er1) : Sp := fun vs H Q _ => ∃ (a : Addr) (ns : List Int), vs = [.ref a] ∧ SqL K H a (ns.map V.int) ∧ ns.length ≤ 63 ∧ ∀ H', Q (.bl true) H'
section
variable {P : Program} {w : World} {K : PySem.W.Frag} {mg : Str → Option Value} {base : Heap}
theorem ok__law_draws {er : Er1} (EO : Er1Ok K mg er) {ca : ClA} (CA : ClOk K mg ca) {f : Addr} {fd : FuncData} (F : Fun K "_law_draws" "_law_draws" s__law_draws f fd) (m_range : mg "range" = none) (m_len : mg "len" = none) : FnOk P w K mg base CX0 1 f fd ["_law_script", "_law_turn", "_law_many"] (sp__law_draws K ca) := by
  refine F.ok sc__law_draws (fun vs H Q E h => ?_) (fun cdv A outer s H vs Q E hr h => ?_)
  · obtain ⟨a, ns, t, m, rfl, hS, h63, t0, t1, m0, m1, q⟩ := h
    rfl
  obtain ⟨a, ns, t, m, rfl, hS, h63, t0, t1, m0, m1, q⟩ := h
  refine ⟨_, pss_cons (ps_set (i := 3) sc__law_draws.nd rfl (Or.inl rfl) (pe_op op_cat (pe_slice sl_list (pv 0) po_none (po_some pe_int)) (pe_lst (pa_cons (pv 1) pa_nil))))
    (pss_cons (ps_set (i := 4) sc__law_draws.nd rfl (Or.inl rfl) (pe_lst pa_nil))
    (pss_cons (ps_if (pt_cmpR op_eq (pe_op op_mod (pe_op op_fdivL (pe_ix ix_list (pv 3) pe_int (fun _ _ => rfl)) pe_int) pe_int) pe_int (nomark _)) (pss_cons (ps_setComp (i := 5) sc__law_draws.nd rfl (Or.inl rfl) rfl rfl (pi_list (pv 3)) rfl rfl rfl rfl (N := ["_law_cell"]) (.own .nil) (fun _ _ _ _ _ _ => (pg_name (i := 0) (by show List.Nodup (["_law_cell"] : List Str); decide +kernel) rfl (Or.inl rfl))) (fun _ _ _ _ _ _ => pts_nil) (fun _ _ _ _ _ _ => (pe_op op_fdivL (pv 0) pe_int)))
    (pss_cons (ps_for PassesOwn.never rfl (pi_range1 rfl m_range (pa_cons (pe_op op_add (pv 1) (pv 2)) pa_nil)) (pg_name (i := 6) sc__law_draws.nd rfl (Or.inl rfl)) (pss_cons (ps_set (i := 7) sc__law_draws.nd rfl (Or.inl rfl) (pe_op op_mod (pv 6) (pe_callB call_len_seq rfl m_len bb_len (pa_cons (pv 5) pa_nil))))
    (pss_cons (ps_if (pt_cmpR op_ge (pv 6) (pv 1) (nomark _)) (pss_one (ps_expr (pe_bm PySem.F.plainAttrs_list PySem.F.slot_list_append PySem.F.type_list_append mt_append (pv 4) (pa_cons (pe_op op_mod (pe_ix ix_list (pv 5) (pv 7) (fun _ _ => rfl)) pe_int) pa_nil)))) pss_nil)
    (pss_one (ps_asg (pe_op op_fdivL (pe_ix ix_list (pv 5) (pv 7) (fun _ _ => rfl)) pe_int) (pg_sub (pv 5) (pv 7) set_list))))))
    (pss_one (ps_ret (pv 4))))) pss_nil)
    (pss_cons (ps_for PassesOwn.never rfl (pi_range1 rfl m_range (pa_cons (pv 2) pa_nil)) (pg_name (i := 6) sc__law_draws.nd rfl (Or.inl rfl)) (pss_cons (ps_set (i := 8) sc__law_draws.nd rfl (Or.inl rfl) (pe_op op_add (pe_op op_mul (pe_op op_mul (pe_op op_add (pv 6) (pv 1)) (pe_op op_add (pv 6) (pv 1))) pe_int) pe_int))
    (pss_cons (ps_set (i := 9) sc__law_draws.nd rfl (Or.inl rfl) (pe_op op_mod (pe_op op_mul (pe_op op_add (pe_op op_mod (pe_ix ix_list (pv 3) (pe_op op_mod (pv 6) (pe_callB call_len_seq rfl m_len bb_len (pa_cons (pv 3) pa_nil))) (fun _ _ => rfl)) pe_int) (pv 8)) pe_int) pe_int))
    (pss_cons (ps_set (i := 9) sc__law_draws.nd rfl (Or.inl rfl) (pe_op op_mod (pe_op op_add (pe_op op_mul (pv 9) (pv 9)) (pe_op op_mul pe_int (pv 6))) pe_int))
    (pss_one (ps_expr (pe_bm PySem.F.plainAttrs_list PySem.F.slot_list_append PySem.F.type_list_append mt_append (pv 4) (pa_cons (pe_op op_mod (pe_op op_mul (pv 9) (pv 9)) pe_int) pa_nil))))))))
    (pss_one (ps_ret (pv 4)))))), ?_⟩
  have M : ∀ x : Int, 0 ≤ x % 2147483587 ∧ x % 2147483587 < 2147483587 := fun x => ⟨Int.emod_nonneg x (by decide), Int.emod_lt_of_pos x (by decide)⟩
  refine ⟨_, rfl, _, rfl, a, _, rfl, hS, fun p1 hp1 => ⟨_, rfl, (by show 1 ≤ sizeLine; decide), fun p2 hp2 => ?_⟩⟩
  have n12 : p1 ≠ p2 := ne_of_none upd_same hp2
  have s1 := Same.new (Same.refl H) hp1 (.lst (cutV (ns.map V.int) none (some 63)))
  have s2 := Same.new s1 hp2 (.lst [.int t])
  have lc : (cutI ns none (some 63)).length ≤ 63 := Nat.le_trans (cutI_length _ _ _) h63
  refine ⟨p1, p2, _, _, rfl, rfl, (upd_ne n12).trans upd_same, upd_same, ?_, fun pc hpc => ?_⟩
  · rw [cutV_map, List.length_map]; exact sz (by simp; omega)
  have s3 := Same.new s2 hpc (.lst (cutV (ns.map V.int) none (some 63) ++ [.int t]))
  have ecs : cutV (ns.map V.int) none (some 63) ++ [.int t] = (cutI ns none (some 63) ++ [t]).map V.int := by rw [cutV_map, List.map_append]; rfl
  have lcs : 1 ≤ (cutI ns none (some 63) ++ [t]).length ∧ (cutI ns none (some 63) ++ [t]).length ≤ 64 := by rw [List.length_append]; constructor <;> simp <;> omega
  rw [ecs] at s3 ⊢
  generalize hH3 : upd (upd (upd H p1 (.lst (cutV (ns.map V.int) none (some 63)))) p2 (.lst [.int t])) pc (.lst ((cutI ns none (some 63) ++ [t]).map V.int)) = H3 at s3 ⊢
  have hc3 : H3 pc = some (.lst ((cutI ns none (some 63) ++ [t]).map V.int)) := by rw [← hH3]; exact upd_same
  generalize cutI ns none (some 63) ++ [t] = cs at hc3 lcs ⊢
  refine ⟨Nat.zero_le _, fun pf hpf => ?_⟩
  have s4 := Same.new s3 hpf (.lst [])
  have fpf : H pf = none := s3.free hpf
  have ncf : pc ≠ pf := ne_of_none hc3 hpf
  have hc4 : upd H3 pf (.lst []) pc = some (.lst (cs.map V.int)) := (upd_ne ncf).trans hc3
  have hf4 : upd H3 pf (.lst []) pf = some (.lst (([] : List Int).map V.int)) := upd_same
  generalize upd H3 pf (.lst []) = H4 at s4 hc4 hf4 ⊢
  have at0 := atI_int (ns := cs) (i := 0) (by decide) (by omega)
  have lm : (cs.map V.int).length = cs.length := List.length_map _
  refine ⟨_, rfl, pc, _, _, _, rfl, rfl, SqL.of hc4, at0, _, _, rfl, rfl, ⟨by decide, by decide +kernel⟩, _, _, rfl, rfl, pm (by decide), rfl, _, rfl, ite2 (fun _ => ?_) (fun _ => ?_)⟩
  · refine ⟨_, rfl, pc, rfl, ⟨_, SqL.of hc4⟩, fun D hD => comp_list (fun v => match v with | .int c => .int (c / 100000) | v => v) (by rw [lm]; exact sz (by omega)) (SqL.of hc4) hD (fun i x H' R R0 hx hb hR => ?_) ?_⟩
    · obtain ⟨c, rfl⟩ := get_int hx
      exact ⟨Ext.set rfl, ttN (iteT ⟨_, rfl, _, _, rfl, rfl, ⟨by decide, by decide +kernel⟩, hR⟩)⟩
    · have fD : H D = none := s4.free hD
      have nfD : pf ≠ D := ne_of_none hf4 hD
      have el : (cs.map V.int).map (fun v => match v with | .int c => V.int (c / 100000) | v => v) = (cs.map (· / 100000)).map V.int := by rw [List.map_map, List.map_map]; rfl
      rw [el]
      refine ⟨_, rfl, _, rfl, _, _, rfl, rfl, _, rfl, by omega, by omega, for_range (lo := 0) (n := (t + m).toNat) (fun i σ H' => ∃ (o1 o2 o3 o4 : Option V) (ls fs : List Int), σ = [some (.ref a), some (.int t), some (.int m), some (.ref pc), some (.ref pf), some (.ref D), o1, o2, o3, o4] ∧ Same H H' ∧ H' D = some (.lst (ls.map V.int)) ∧ ls.length = cs.length ∧ H' pf = some (.lst (fs.map V.int)) ∧ fs.length = i - t.toNat ∧ ∀ x ∈ fs, 0 ≤ x ∧ x < 2147483587)
        ⟨_, _, _, _, _, [], rfl, Same.new s4 hD _, upd_same, by simp, (upd_ne nfD).trans hf4, by simp, by simp⟩ ?_ ?_⟩
      · rintro i σ H5 hi ⟨o1, o2, o3, o4, ls, fs, rfl, sm, hl, ll, hf, lf, bf⟩
        have lml : (ls.map V.int).length = ls.length := List.length_map _
        have pos : (0 : Int) < (((ls.map V.int).length : Nat) : Int) := by rw [lml]; omega
        have k0 := Int.emod_nonneg ((0 : Int) + (i : Int)) (show (((ls.map V.int).length : Nat) : Int) ≠ 0 by omega)
        have k1 := Int.emod_lt_of_pos ((0 : Int) + (i : Int)) pos
        refine ⟨_, rfl, _, rfl, D, _, rfl, .inl (SqL.of hl), _, _, rfl, rfl, pos, ?_⟩
        try dsimp only
        generalize ((0 : Int) + (i : Int)) % (((ls.map V.int).length : Nat) : Int) = k at k0 k1 ⊢
        rw [lml] at k1
        have atk := atI_int (ns := ls) (i := k) k0 k1
        refine ⟨_, rfl, _, rfl, _, _, rfl, rfl, _, rfl, ite2 (fun c => ?_) (fun c => ?_)⟩
        · have c' : t ≤ (0 : Int) + (i : Int) := of_decide_eq_true c
          refine ⟨_, rfl, .inl ⟨rfl, _, SqL.of hf⟩, _, rfl, _, rfl, D, _, _, _, rfl, rfl, SqL.of hl, atk, _, _, rfl, rfl, pm (by decide), pf, _, _, rfl, rfl, hf, by rw [List.length_map]; exact sz' (by omega), ?_⟩
          have hl6 : upd H5 pf (.lst (fs.map V.int ++ [.int (ls.getD k.toNat 0 % 2147483587)])) D = some (.lst (ls.map V.int)) := (upd_ne (Ne.symm nfD)).trans hl
          refine ⟨_, rfl, _, rfl, D, _, _, _, rfl, rfl, SqL.of hl6, atk, _, _, rfl, rfl, ⟨by decide, by decide +kernel⟩, _, rfl, _, rfl, D, _, _, _, rfl, rfl, hl6, ixN_nat k0 (by rw [lml]; exact k1), ?_⟩
          refine ⟨_, _, _, _, ls.set k.toNat (ls.getD k.toNat 0 / 2147483587), fs ++ [ls.getD k.toNat 0 % 2147483587], rfl, (sm.upd fpf _).upd fD _, ?_, by simpa using ll, ?_, by simp [lf]; omega, ?_⟩
          · rw [upd_same, List.map_set]
          · rw [upd_ne nfD, upd_same, List.map_append]; rfl
          · intro x hx
            rcases List.mem_append.mp hx with z | z
            · exact bf x z
            · have : x = ls.getD k.toNat 0 % 2147483587 := by simpa using z
              rw [this]; exact M _
        · have c' : ¬ t ≤ (0 : Int) + (i : Int) := of_decide_eq_false (Bool.eq_false_iff.mpr c)
          refine ⟨_, rfl, _, rfl, D, _, _, _, rfl, rfl, SqL.of hl, atk, _, _, rfl, rfl, ⟨by decide, by decide +kernel⟩, _, rfl, _, rfl, D, _, _, _, rfl, rfl, hl, ixN_nat k0 (by rw [lml]; exact k1), ?_⟩
          refine ⟨_, _, _, _, ls.set k.toNat (ls.getD k.toNat 0 / 2147483587), fs, rfl, sm.upd fD _, ?_, by simpa using ll, (upd_ne nfD).trans hf, by omega, bf⟩
          rw [upd_same, List.map_set]
      · rintro σ H5 ⟨o1, o2, o3, o4, ls, fs, rfl, sm, hl, ll, hf, lf, bf⟩
        exact ⟨_, rfl, q pf fs H5 sm fpf hf (by omega) bf⟩
  · refine ⟨_, rfl, _, rfl, by omega, by omega, for_range (lo := 0) (n := m.toNat) (fun i σ H' => ∃ (o1 o2 o3 o4 o5 : Option V) (fs : List Int), σ = [some (.ref a), some (.int t), some (.int m), some (.ref pc), some (.ref pf), o1, o2, o3, o4, o5] ∧ Same H H' ∧ H' pc = some (.lst (cs.map V.int)) ∧ H' pf = some (.lst (fs.map V.int)) ∧ fs.length = i ∧ ∀ x ∈ fs, 0 ≤ x ∧ x < 2147483587)
      ⟨_, _, _, _, _, [], rfl, s4, hc4, hf4, rfl, by simp⟩ ?_ ?_⟩
    · rintro i σ H5 hi ⟨o1, o2, o3, o4, o5, fs, rfl, sm, hc, hf, lf, bf⟩
      have pos : (0 : Int) < (((cs.map V.int).length : Nat) : Int) := by rw [lm]; omega
      have k0 := Int.emod_nonneg ((0 : Int) + (i : Int)) (show (((cs.map V.int).length : Nat) : Int) ≠ 0 by omega)
      have k1 := Int.emod_lt_of_pos ((0 : Int) + (i : Int)) pos
      have atk := atI_int (ns := cs) (i := ((0 : Int) + (i : Int)) % (((cs.map V.int).length : Nat) : Int)) k0 (by rw [← lm]; exact k1)
      refine ⟨_, rfl, _, rfl, _, _, rfl, rfl, _, rfl, _, rfl, _, _, rfl, rfl, _, _, rfl, rfl, .inl ⟨by omega, by omega⟩, _, _, rfl, rfl, .inr ⟨by decide, by decide⟩, _, _, rfl, rfl, ?_⟩
      refine ⟨_, rfl, _, rfl, _, rfl, pc, _, rfl, .inl (SqL.of hc), _, _, rfl, rfl, pos, pc, _, _, _, rfl, rfl, SqL.of hc, atk, _, _, rfl, rfl, pm (by decide), _, rfl, _, _, rfl, rfl, _, _, rfl, rfl, .inr ⟨by decide, by decide⟩, _, _, rfl, rfl, pm (by decide), ?_⟩
      try dsimp only
      generalize hnu : (cs.getD (((0 : Int) + (i : Int)) % (((cs.map V.int).length : Nat) : Int)).toNat 0 % 2147483647 + (((0 : Int) + (i : Int) + t) * ((0 : Int) + (i : Int) + t) * 7919 + 104729)) * 48271 % 2147483647 = nu
      have b0 : 0 ≤ nu := by rw [← hnu]; exact Int.emod_nonneg _ (by decide)
      have b1 : nu < 2147483647 := by rw [← hnu]; exact Int.emod_lt_of_pos _ (by decide)
      refine ⟨_, rfl, _, rfl, _, _, rfl, rfl, .inl ⟨by omega, by omega⟩, _, rfl, _, _, rfl, rfl, .inl ⟨by decide, by decide⟩, _, _, rfl, rfl, _, _, rfl, rfl, pm (by decide), ?_⟩
      try dsimp only
      generalize hnv : (nu * nu + 69621 * ((0 : Int) + (i : Int))) % 2147483629 = nv
      have d0 : 0 ≤ nv := by rw [← hnv]; exact Int.emod_nonneg _ (by decide)
      have d1 : nv < 2147483629 := by rw [← hnv]; exact Int.emod_lt_of_pos _ (by decide)
      refine ⟨_, rfl, .inl ⟨rfl, _, SqL.of hf⟩, _, rfl, _, rfl, _, _, rfl, rfl, .inl ⟨by omega, by omega⟩, _, _, rfl, rfl, pm (by decide), pf, _, _, rfl, rfl, hf, by rw [List.length_map]; exact sz' (by omega), ?_⟩
      refine ⟨_, _, _, _, _, fs ++ [nv * nv % 2147483587], rfl, sm.upd fpf _, (upd_ne ncf).trans hc, ?_, by simp [lf], ?_⟩
      · rw [upd_same, List.map_append]; rfl
      · intro y hy
        rcases List.mem_append.mp hy with z | z
        · exact bf y z
        · have : y = nv * nv % 2147483587 := by simpa using z
          rw [this]; exact M _
    · rintro σ H5 ⟨o1, o2, o3, o4, o5, fs, rfl, sm, hc, hf, lf, bf⟩
      exact ⟨_, rfl, q pf fs H5 sm fpf hf lf bf⟩
theorem ok__law_rooms {er : Er1} (EO : Er1Ok K mg er) {ca : ClA} (CA : ClOk K mg ca) {f : Addr} {fd : FuncData} (F : Fun K "_law_rooms" "_law_rooms" s__law_rooms f fd) {f0 : Addr} {fd0 : FuncData} (d__law_draws : Def P w K mg base "_law_draws" ["_law_script", "_law_turn", "_law_many"] 1 (sp__law_draws K ca) f0 fd0) (m_range : mg "range" = none) (m_min : mg "min" = none) (m_len : mg "len" = none) : FnOk P w K mg base CX0 2 f fd ["_law_script", "_law_size", "_law_turn"] (sp__law_rooms K ca) := by
  refine F.ok sc__law_rooms (fun vs H Q E h => ?_) (fun cdv A outer s H vs Q E hr h => ?_)
  · obtain ⟨a, ns, n, t, rfl, hS, h63, hn, t0, t1, q⟩ := h
    rfl
  obtain ⟨a, ns, n, t, rfl, hS, h63, hn, t0, t1, q⟩ := h
  refine ⟨_, pss_cons (ps_set (i := 3) sc__law_rooms.nd rfl (Or.inl rfl) (pcall d__law_draws hr (pa_cons (pv 0) (pa_cons (pv 2) (pa_cons (pe_op op_add (pv 1) pe_int) pa_nil)))))
    (pss_cons (ps_set (i := 4) sc__law_rooms.nd rfl (Or.inl rfl) (pe_op op_sub (pe_op op_mod (pe_ix ix_list (pv 3) (pv 1) (fun _ _ => rfl)) pe_int) pe_int))
    (pss_cons (ps_set (i := 5) sc__law_rooms.nd rfl (Or.inl rfl) (pe_ix ix_list (pe_lst (pa_cons (pe_lst (pa_cons pe_int (pa_cons pe_int (pa_cons pe_int (pa_cons pe_int pa_nil))))) (pa_cons (pe_lst (pa_cons pe_int (pa_cons pe_int (pa_cons pe_int (pa_cons pe_int pa_nil))))) (pa_cons (pe_lst (pa_cons pe_int (pa_cons pe_int (pa_cons pe_int (pa_cons pe_int pa_nil))))) pa_nil)))) (pe_op op_mod (pe_op op_fdivL (pe_ix ix_list (pv 3) (pv 1) (fun _ _ => rfl)) pe_int) pe_int) (fun _ _ => rfl)))
    (pss_cons (ps_set (i := 6) sc__law_rooms.nd rfl (Or.inl rfl) (pe_lst pa_nil))
    (pss_cons (ps_set (i := 7) sc__law_rooms.nd rfl (Or.inl rfl) (pe_lst pa_nil))
    (pss_cons (ps_for PassesOwn.never rfl (pi_range1 rfl m_range (pa_cons (pv 1) pa_nil)) (pg_name (i := 8) sc__law_rooms.nd rfl (Or.inl rfl)) (pss_cons (ps_for PassesOwn.never rfl (pi_range1 rfl m_range (pa_cons (pe_callB (call_min2 rfl) rfl m_min bb_min (pa_cons (pe_ix ix_list (pv 5) (pe_op op_mod (pe_ix ix_list (pv 3) (pv 8) (fun _ _ => rfl)) pe_int) (fun _ _ => rfl)) (pa_cons (pe_callB call_len_seq rfl m_len bb_len (pa_cons (pv 7) pa_nil)) pa_nil))) pa_nil)) (pg_name (i := 9) sc__law_rooms.nd rfl (Or.inl rfl)) (pss_one (ps_expr (pe_bm0 PySem.F.plainAttrs_list PySem.F.slot_list_pop PySem.F.type_list_pop mt_pop (pv 7)))))
    (pss_one (ps_if (PW.pt (pw_or (pt_cmpR op_eq (pe_callB call_len_seq rfl m_len bb_len (pa_cons (pv 7) pa_nil)) pe_int (nomark _)) (pw_or1 (pt_cmpR op_le (pe_op op_mod (pe_op op_fdivL (pe_ix ix_list (pv 3) (pv 8) (fun _ _ => rfl)) pe_int) pe_int) (pv 4) (nomark _))))) (pss_cons (ps_expr (pe_bm PySem.F.plainAttrs_list PySem.F.slot_list_append PySem.F.type_list_append mt_append (pv 7) (pa_cons (pe_callB call_len_seq rfl m_len bb_len (pa_cons (pv 6) pa_nil)) pa_nil)))
    (pss_one (ps_expr (pe_bm PySem.F.plainAttrs_list PySem.F.slot_list_append PySem.F.type_list_append mt_append (pv 6) (pa_cons (pe_lst (pa_cons (pv 8) pa_nil)) pa_nil))))) (pss_one (ps_expr (pe_bm PySem.F.plainAttrs_list PySem.F.slot_list_append PySem.F.type_list_append mt_append (pe_ix ix_list (pv 6) (pe_ix ix_list (pv 7) (pe_un un_neg pe_int) (fun _ _ => rfl)) (fun _ _ => rfl)) (pa_cons (pv 8) pa_nil))))))))
    (pss_one (ps_ret (pv 6)))))))), ?_⟩
  refine ⟨_, rfl, _, rfl, _, rfl, _, _, rfl, rfl, a, ns, t, _, rfl, hS, h63, t0, by omega, by omega, by omega, fun pd xs H1 sm1 fd hd lx bx => ?_⟩
  have lx' : xs.length = n + 1 := by omega
  have atz := atI_int (ns := xs) (i := (n : Int)) (by omega) (by omega)
  refine ⟨_, rfl, _, rfl, pd, _, _, _, rfl, rfl, SqL.of hd, atz, _, _, rfl, rfl, pm (by decide), _, _, rfl, rfl, ?_⟩
  try dsimp only
  generalize xs.getD (n : Int).toNat 0 % 6 - 1 = le
  refine ⟨sz (n := 4) (by decide), fun q1 hq1 => ⟨sz (n := 4) (by decide), fun q2 hq2 => ⟨sz (n := 4) (by decide), fun q3 hq3 => ⟨sz (n := 3) (by decide), fun qo hqo => ?_⟩⟩⟩⟩
  have s1 := Same.new sm1 hq1 (.lst [.int 0, .int 0, .int 0, .int 0])
  have s2 := Same.new s1 hq2 (.lst [.int 0, .int 0, .int 1, .int 2])
  have s3 := Same.new s2 hq3 (.lst [.int 0, .int 1, .int 1, .int 3])
  have s4 := Same.new s3 hqo (.lst [.ref q1, .ref q2, .ref q3])
  have k1 := Same.new (Same.refl _) hq2 (.lst [.int 0, .int 0, .int 1, .int 2])
  have k2 := Same.new (Same.refl _) hq3 (.lst [.int 0, .int 1, .int 1, .int 3])
  have k3 := Same.new (Same.refl _) hqo (.lst [.ref q1, .ref q2, .ref q3])
  have hd2 := (Same.new (Same.new (Same.new (Same.new (Same.refl H1) hq1 (.lst [.int 0, .int 0, .int 0, .int 0])) hq2 (.lst [.int 0, .int 0, .int 1, .int 2])) hq3 (.lst [.int 0, .int 1, .int 1, .int 3])) hqo (.lst [.ref q1, .ref q2, .ref q3])) _ _ hd
  have w1 := k3 _ _ (k2 _ _ (k1 _ _ (upd_same (H := H1) (a := q1) (o := .lst [.int 0, .int 0, .int 0, .int 0]))))
  have w2 := k3 _ _ (k2 _ _ (upd_same (H := upd H1 q1 (.lst [.int 0, .int 0, .int 0, .int 0])) (a := q2) (o := .lst [.int 0, .int 0, .int 1, .int 2])))
  have w3 := k3 _ _ (upd_same (H := upd (upd H1 q1 (.lst [.int 0, .int 0, .int 0, .int 0])) q2 (.lst [.int 0, .int 0, .int 1, .int 2])) (a := q3) (o := .lst [.int 0, .int 1, .int 1, .int 3]))
  have e0 := Int.emod_nonneg (xs.getD (n : Int).toNat 0 / 6) (show (3 : Int) ≠ 0 by decide)
  have e1 := Int.emod_lt_of_pos (xs.getD (n : Int).toNat 0 / 6) (show (0 : Int) < 3 by decide)
  refine ⟨_, rfl, _, rfl, pd, _, _, _, rfl, rfl, SqL.of hd2, atz, _, _, rfl, rfl, ⟨by decide, by decide +kernel⟩, _, _, rfl, rfl, pm (by decide), ?_⟩
  try dsimp only
  generalize xs.getD (n : Int).toNat 0 / 6 % 3 = e at e0 e1 ⊢
  have hqo' : upd (upd (upd (upd H1 q1 (.lst [.int 0, .int 0, .int 0, .int 0])) q2 (.lst [.int 0, .int 0, .int 1, .int 2])) q3 (.lst [.int 0, .int 1, .int 1, .int 3])) qo (.lst [.ref q1, .ref q2, .ref q3]) qo = some (.lst [.ref q1, .ref q2, .ref q3]) := upd_same
  generalize upd (upd (upd (upd H1 q1 (.lst [.int 0, .int 0, .int 0, .int 0])) q2 (.lst [.int 0, .int 0, .int 1, .int 2])) q3 (.lst [.int 0, .int 1, .int 1, .int 3])) qo (.lst [.ref q1, .ref q2, .ref q3]) = H2 at s4 hd2 w1 w2 w3 hqo' ⊢
  obtain ⟨po, us, est, hpo, lu, bu⟩ : ∃ (po : Addr) (us : List Int), atI [V.ref q1, .ref q2, .ref q3] e = some (.ref po) ∧ H2 po = some (.lst (us.map V.int)) ∧ us.length = 4 ∧ ∀ x ∈ us, 0 ≤ x ∧ x ≤ 3 := by
    rcases (by omega : e = 0 ∨ e = 1 ∨ e = 2) with rfl | rfl | rfl
    · exact ⟨q1, [0, 0, 0, 0], rfl, w1, rfl, by decide⟩
    · exact ⟨q2, [0, 0, 1, 2], rfl, w2, rfl, by decide⟩
    · exact ⟨q3, [0, 1, 1, 3], rfl, w3, rfl, by decide⟩
  refine ⟨qo, _, _, _, rfl, rfl, SqL.of hqo', est, ?_⟩
  refine ⟨Nat.zero_le _, fun pr hpr => ⟨Nat.zero_le _, fun pp hpp => ?_⟩⟩
  have z1 := Same.new (Same.refl H2) hpr (.lst [])
  have z2 := Same.new z1 hpp (.lst [])
  have fpr : H2 pr = none := hpr
  have fpp : H2 pp = none := z1.free hpp
  have nrp : pr ≠ pp := ne_of_none upd_same hpp
  have hsr : upd (upd H2 pr (.lst [])) pp (.lst []) pr = some (.lst []) := (upd_ne nrp).trans upd_same
  have hsp : upd (upd H2 pr (.lst [])) pp (.lst []) pp = some (.lst []) := upd_same
  generalize hHs : upd (upd H2 pr (.lst [])) pp (.lst []) = Hs at z2 hsr hsp ⊢
  refine ⟨_, rfl, _, rfl, by omega, by omega, for_range (lo := 0) (n := (n : Int).toNat) (fun i σ H' => ∃ (o1 o2 : Option V) (rs : List (List Int)) (p : List Nat), σ = [some (.ref a), some (.int n), some (.int t), some (.ref pd), some (.int le), some (.ref po), some (.ref pr), some (.ref pp), o1, o2] ∧ Same H2 H' ∧ LLs Hs H' pr rs ∧ H' pp = some (.lst (p.map (fun m : Nat => V.int m))) ∧ Rom rs p i ∧ Stay Hs H')
    ⟨_, _, [], [], rfl, z2, .nil hsr, hsp, .start, Stay.refl Hs⟩ ?_ ?_⟩
  · rintro i σ H5 hi ⟨o1, o2, rs, p, rfl, sm5, ll5, hp5, rom5, ss5⟩
    have hi' : i < n := by omega
    have atk := atI_int (ns := xs) (i := (0 : Int) + (i : Int)) (by omega) (by omega)
    have f0 := Int.emod_nonneg (xs.getD ((0 : Int) + (i : Int)).toNat 0) (show (4 : Int) ≠ 0 by decide)
    have f1 := Int.emod_lt_of_pos (xs.getD ((0 : Int) + (i : Int)).toNat 0) (show (0 : Int) < 4 by decide)
    have atu := atI_int (ns := us) (i := xs.getD ((0 : Int) + (i : Int)).toNat 0 % 4) f0 (by omega)
    have bv : 0 ≤ us.getD (xs.getD ((0 : Int) + (i : Int)).toNat 0 % 4).toNat 0 ∧ us.getD (xs.getD ((0 : Int) + (i : Int)).toNat 0 % 4).toNat 0 ≤ 3 := by
      have hlt : (xs.getD ((0 : Int) + (i : Int)).toNat 0 % 4).toNat < us.length := by omega
      rw [List.getD_eq_getElem?_getD, List.getElem?_eq_getElem hlt]
      exact bu _ (List.getElem_mem hlt)
    obtain ⟨c, ec, hc⟩ : ∃ c : Nat, (if (((p.map (fun m : Nat => V.int m)).length : Nat) : Int) < us.getD (xs.getD ((0 : Int) + (i : Int)).toNat 0 % 4).toNat 0 then (((p.map (fun m : Nat => V.int m)).length : Nat) : Int) else us.getD (xs.getD ((0 : Int) + (i : Int)).toNat 0 % 4).toNat 0) = (c : Int) ∧ c ≤ p.length := by
      generalize us.getD (xs.getD ((0 : Int) + (i : Int)).toNat 0 % 4).toNat 0 = v at bv ⊢
      rw [List.length_map]
      split
      · exact ⟨p.length, rfl, Nat.le_refl _⟩
      · exact ⟨v.toNat, by omega, by omega⟩
    have lens5 := rom5.lens
    refine ⟨_, rfl, _, rfl, _, rfl, pd, _, _, _, rfl, rfl, SqL.of (sm5 _ _ hd2), atk, _, _, rfl, rfl, pm (by decide), po, _, _, _, rfl, rfl, SqL.of (sm5 _ _ hpo), atu, _, rfl, pp, _, rfl, .inl (SqL.of hp5), _, _, rfl, (c : Int), congrArg (fun z => [V.int z]) ec, by omega, by omega, for_range (lo := 0) (n := (c : Int).toNat) (fun j σ H' => ∃ (o : Option V) (p' : List Nat), σ = [some (.ref a), some (.int n), some (.int t), some (.ref pd), some (.int le), some (.ref po), some (.ref pr), some (.ref pp), some (.int ((0 : Int) + (i : Int))), o] ∧ Same H2 H' ∧ LLs Hs H' pr rs ∧ H' pp = some (.lst (p'.map (fun m : Nat => V.int m))) ∧ Rom rs p' i ∧ Stay Hs H' ∧ p'.length + j = p.length)
      ⟨_, p, rfl, sm5, ll5, hp5, rom5, ss5, rfl⟩ ?_ ?_⟩
    · rintro j σ H6 hj ⟨o, p', rfl, sm6, ll6, hp6, rom6, ss6, lp⟩
      have hne : p' ≠ [] := fun z => by rw [z] at lp; simp at lp; omega
      obtain ⟨pl0, m, rfl⟩ : ∃ pl0 m, p' = pl0 ++ [m] := ⟨p'.dropLast, p'.getLast hne, (List.dropLast_concat_getLast hne).symm⟩
      have lp0 : (pl0 ++ [m]).length = pl0.length + 1 := by simp
      have hlast : ((pl0 ++ [m]).map (fun m : Nat => V.int m))[((pl0 ++ [m]).map (fun m : Nat => V.int m)).length - 1]? = some (.int m) := by
        rw [List.length_map, lp0, List.map_append, Nat.add_sub_cancel, List.getElem?_append_right (by simp)]
        simp
      have hdl : ((pl0 ++ [m]).map (fun m : Nat => V.int m)).dropLast = pl0.map (fun m : Nat => V.int m) := by rw [List.map_append]; exact List.dropLast_concat
      refine ⟨_, rfl, .inl ⟨rfl, _, SqL.of hp6⟩, pp, _, _, rfl, rfl, hp6, hlast, ?_⟩
      rw [hdl]
      exact ⟨_, pl0, rfl, sm6.upd fpp _, ll6.updC hsp nrp, upd_same, rom6.shut, ss6.upd pp _, by omega⟩
    · rintro σ H6 ⟨o, p6, rfl, sm6, ll6, hp6, rom6, ss6, lp⟩
      obtain ⟨xs6, hx6, lx6⟩ := ll6.len
      have lens6 := rom6.lens
      refine ⟨_, rfl, pp, _, rfl, .inl (SqL.of hp6), rfl, _, rfl, ?_⟩
      by_cases h2 : p6 = []
      · refine iteP (by rw [h2]; rfl) (iteT ?_)
        refine ⟨_, rfl, .inl ⟨rfl, _, SqL.of hp6⟩, _, rfl, pr, _, rfl, .inl (SqL.of hx6), pp, _, _, rfl, rfl, hp6, by rw [List.length_map]; exact sz' (by omega), ?_⟩
        have hx7 := (upd_ne (o := .lst (p6.map (fun m : Nat => V.int m) ++ [.int (xs6.length : Int)])) nrp).trans hx6
        refine ⟨_, rfl, .inl ⟨rfl, _, SqL.of hx7⟩, _, rfl, (by show 1 ≤ sizeLine; decide), fun b hb => ?_⟩
        have nb : pr ≠ b := ne_of_none hx7 hb
        have npb : pp ≠ b := ne_of_none upd_same hb
        have sm7 := sm6.upd fpp (.lst (p6.map (fun m : Nat => V.int m) ++ [.int (xs6.length : Int)]))
        have ll7 := ll6.updC (o := .lst (p6.map (fun m : Nat => V.int m) ++ [.int (xs6.length : Int)])) hsp nrp
        have sk7 : ∀ q, H6 q = none → q ≠ pp → upd H6 pp (.lst (p6.map (fun m : Nat => V.int m) ++ [.int (xs6.length : Int)])) q = none := fun q h n => (upd_ne n).trans h
        refine ⟨pr, _, _, rfl, rfl, (upd_ne nb).trans hx7, sz' (by omega), ?_⟩
        have fb : Hs b = none := by
          have e := hb
          rw [upd_ne (Ne.symm npb)] at e
          exact ss6.free' e
        refine ⟨_, _, rs ++ [[((i : Nat) : Int)]], p6 ++ [rs.length], rfl, ((Same.new sm7 hb _).upd fpr _), ?_, ?_, rom6.opn, ?_⟩
        · have := ll7.snoc hx7 hb fb [((i : Nat) : Int)]
          rw [Int.zero_add]
          exact this
        · rw [upd_ne (Ne.symm nrp), upd_ne npb, upd_same, List.map_append, lx6]
          rfl
        · exact ((ss6.upd pp _).new b).upd pr _
      · refine iteN (fun z => h2 (by injection z with z; rw [List.length_map] at z; exact List.eq_nil_of_length_eq_zero (by omega))) ⟨_, rfl, _, rfl, pd, _, _, _, rfl, rfl, SqL.of (sm6 _ _ hd2), atk, _, _, rfl, rfl, ⟨by decide, by decide +kernel⟩, _, _, rfl, rfl, pm (by decide), _, rfl, _, _, rfl, rfl, _, rfl, ite2 (fun _ => ?_) (fun _ => ?_)⟩
        · skip
          refine ⟨_, rfl, .inl ⟨rfl, _, SqL.of hp6⟩, _, rfl, pr, _, rfl, .inl (SqL.of hx6), pp, _, _, rfl, rfl, hp6, by rw [List.length_map]; exact sz' (by omega), ?_⟩
          have hx7 := (upd_ne (o := .lst (p6.map (fun m : Nat => V.int m) ++ [.int (xs6.length : Int)])) nrp).trans hx6
          refine ⟨_, rfl, .inl ⟨rfl, _, SqL.of hx7⟩, _, rfl, (by show 1 ≤ sizeLine; decide), fun b hb => ?_⟩
          have nb : pr ≠ b := ne_of_none hx7 hb
          have npb : pp ≠ b := ne_of_none upd_same hb
          have sm7 := sm6.upd fpp (.lst (p6.map (fun m : Nat => V.int m) ++ [.int (xs6.length : Int)]))
          have ll7 := ll6.updC (o := .lst (p6.map (fun m : Nat => V.int m) ++ [.int (xs6.length : Int)])) hsp nrp
          have sk7 : ∀ q, H6 q = none → q ≠ pp → upd H6 pp (.lst (p6.map (fun m : Nat => V.int m) ++ [.int (xs6.length : Int)])) q = none := fun q h n => (upd_ne n).trans h
          refine ⟨pr, _, _, rfl, rfl, (upd_ne nb).trans hx7, sz' (by omega), ?_⟩
          have fb : Hs b = none := by
            have e := hb
            rw [upd_ne (Ne.symm npb)] at e
            exact ss6.free' e
          refine ⟨_, _, rs ++ [[((i : Nat) : Int)]], p6 ++ [rs.length], rfl, ((Same.new sm7 hb _).upd fpr _), ?_, ?_, rom6.opn, ?_⟩
          · have := ll7.snoc hx7 hb fb [((i : Nat) : Int)]
            rw [Int.zero_add]
            exact this
          · rw [upd_ne (Ne.symm nrp), upd_ne npb, upd_same, List.map_append, lx6]
            rfl
          · exact ((ss6.upd pp _).new b).upd pr _
        · obtain ⟨pl0, m, rfl⟩ : ∃ pl0 m, p6 = pl0 ++ [m] := ⟨p6.dropLast, p6.getLast h2, (List.dropLast_concat_getLast h2).symm⟩
          have hm : m < rs.length := lens6.2.1 m (by simp)
          obtain ⟨b, hb1, hb2, hb3, hb4⟩ := ll6.get hx6 (List.getElem?_eq_getElem hm)
          have atl : atI ((pl0 ++ [m]).map (fun m : Nat => V.int m)) (-1) = some (.int m) := by rw [List.map_append]; exact atI_last _ _
          have hml := lens6.2.2.2 rs[m] (List.getElem_mem hm)
          have nbp : pp ≠ b := fun z => by rw [← z, hsp] at hb3; cases hb3
          refine ⟨_, rfl, _, rfl, _, rfl, pp, _, _, _, rfl, rfl, SqL.of hp6, atl, pr, _, _, _, rfl, rfl, SqL.of hx6, atI_nat hb1, .inl ⟨rfl, _, SqL.of hb2⟩, _, rfl, b, _, _, rfl, rfl, hb2, by rw [List.length_map]; exact sz' (by omega), ?_⟩
          refine ⟨_, _, rs.set m (rs[m] ++ [((i : Nat) : Int)]), pl0 ++ [m], rfl, sm6.upd (z2.free hb3) _, ?_, (upd_ne nbp).trans hp6, rom6.put (List.getElem?_eq_getElem hm), ss6.upd b _⟩
          have := ll6.put hx6 hb1 (rs[m] ++ [((i : Nat) : Int)])
          rw [List.map_append] at this
          rw [Int.zero_add]
          exact this
  · rintro σ H5 ⟨o1, o2, rs, p, rfl, sm5, ll5, hp5, rom5, ss5⟩
    exact ⟨_, rfl, q pr rs p H5 (s4.trans sm5) (s4.free fpr) (ll5.since (s4.trans z2)) rom5⟩
theorem ok__law_cell_at {er : Er1} (EO : Er1Ok K mg er) {ca : ClA} (CA : ClOk K mg ca) {f : Addr} {fd : FuncData} (F : Fun K "_law_cell_at" "_law_cell_at" s__law_cell_at f fd) (m_len : mg "len" = none) : FnOk P w K mg base CX0 1 f fd ["_law_script", "_law_k"] (sp__law_cell_at K ca) := by
  refine F.ok sc__law_cell_at (fun vs H Q E h => ?_) (fun cdv A outer s H vs Q E hr h => ?_)
  · obtain ⟨a, ns, k, rfl, hS, h0, q⟩ := h
    rfl
  obtain ⟨a, ns, k, rfl, hS, h0, q⟩ := h
  refine ⟨_, pss_cons (ps_if (pt_cmpR op_lt (pv 1) (pe_callB call_len_seq rfl m_len bb_len (pa_cons (pv 0) pa_nil)) (nomark _)) (pss_one (ps_ret (pe_ix ix_list (pv 0) (pv 1) (fun _ _ => rfl)))) pss_nil)
    (pss_one (ps_ret pe_int)), ?_⟩
  have hl : (ns.map V.int).length = ns.length := List.length_map _
  refine ⟨_, rfl, _, rfl, a, _, rfl, .inl hS, _, _, rfl, rfl, _, rfl, ite2 (fun c => ?_) (fun c => ?_)⟩
  · have c' : k < (((ns.map V.int).length : Nat) : Int) := of_decide_eq_true c
    rw [hl] at c'
    exact ⟨_, rfl, _, rfl, a, _, _, _, rfl, rfl, hS, atI_int h0 c', q⟩
  · have c' : ¬ k < (((ns.map V.int).length : Nat) : Int) := of_decide_eq_false (Bool.eq_false_iff.mpr c)
    rw [hl] at c'
    have e : ns.getD k.toNat 0 = 0 := by rw [List.getD_eq_getElem?_getD, List.getElem?_eq_none (by omega)]; rfl
    rw [e] at q
    exact q
theorem ok__law_copy {er : Er1} (EO : Er1Ok K mg er) {ca : ClA} (CA : ClOk K mg ca) {f : Addr} {fd : FuncData} (F : Fun K "_law_copy" "_law_copy" s__law_copy f fd) (m_list : mg "list" = none) : FnOk P w K mg base CX0 1 f fd ["_law_rooms_here"] (sp__law_copy K ca) := by
  refine F.ok sc__law_copy (fun vs H Q E h => ?_) (fun cdv A outer s H vs Q E hr h => ?_)
  · obtain ⟨l, Ha, ls, rfl, hl, hz, q⟩ := h
    rfl
  obtain ⟨l, Ha, ls, rfl, hl, hz, q⟩ := h
  refine ⟨_, pss_one (ps_ret (pe_comp rfl (pi_list (pv 0)) rfl rfl rfl rfl (N := ["_law_room"]) (.own .nil) (fun _ _ _ _ _ _ => (pg_name (i := 0) (by show List.Nodup (["_law_room"] : List Str); decide +kernel) rfl (Or.inl rfl))) (fun _ _ _ _ _ _ => pts_nil) (fun _ _ _ _ _ _ => (pe_callTy (call_list_ofK (K := K) rfl) rfl m_list bb_list (pa_cons (pv 0) pa_nil))))), ?_⟩
  obtain ⟨xs, el, lxs⟩ := hl.len
  refine ⟨_, rfl, l, rfl, ⟨_, SqL.of el⟩, fun D hD => comp_walk (xs := xs) (fun k ys H' => Same H H' ∧ H' D = some (.lst ys) ∧ LLs H H' D (ls.take k) ∧ k ≤ ls.length) (sz (by omega)) ⟨Same.new (Same.refl H) hD _, upd_same, LLs.nil upd_same, Nat.zero_le _⟩ (fun k ys H' hk h => ⟨SqL.of (h.1 _ _ el), ?_⟩) (fun k v ys H' R R0 hx h r r0 => ?_) (fun ys H' h => ?_)⟩
  · obtain ⟨us, eu, lu⟩ := h.2.2.1.len
    rw [h.2.1] at eu
    cases eu
    rw [lu, List.length_take]
    omega
  · obtain ⟨sk, hy, lk, hk⟩ := h
    obtain ⟨b, ns, rfl, hn, hb, _⟩ := hl.at el hx
    have hlt : k < ls.length := (List.getElem?_eq_some_iff.mp hn).1
    refine ⟨Ext.set rfl, ttN (iteT ⟨_, rfl, b, _, rfl, .inl (SqL.of (sk _ _ hb)), fun c hc => ?_⟩)⟩
    have k9 := Same.new (Same.refl H') hc (.lst (ns.map V.int))
    refine r _ _ (k9 _ _ hy) ⟨(sk.trans k9).upd hD _, upd_same, ?_, hlt⟩
    rw [List.take_add_one, hn]
    exact lk.push hy k9 hc upd_same (sk.free hc)
  · obtain ⟨sk, hy, lk, hk⟩ := h
    rw [List.take_of_length_le (by omega)] at lk
    exact q D H' sk hD lk
theorem ok__law_moved {er : Er1} (EO : Er1Ok K mg er) {ca : ClA} (CA : ClOk K mg ca) {f : Addr} {fd : FuncData} (F : Fun K "_law_moved" "_law_moved" s__law_moved f fd) (m_sorted : mg "sorted" = none) (m_len : mg "len" = none) : FnOk P w K mg base CX0 1 f fd ["_law_rooms_here", "_law_at", "_law_place", "_law_to"] (sp__law_moved K ca) := by
  refine F.ok sc__law_moved (fun vs H Q E h => ?_) (fun cdv A outer s H vs Q E hr h => ?_)
  · obtain ⟨l, H0, rs, i, j, k, r, rfl, hl, s0, f0, hz, hz2, hi, hj, hk, q⟩ := h
    rfl
  obtain ⟨l, H0, rs, i, j, k, r, rfl, hl, s0, f0, hz, hz2, hi, hj, hk, q⟩ := h
  refine ⟨_, pss_cons (ps_set (i := 4) sc__law_moved.nd rfl (Or.inl rfl) (pe_bm PySem.F.plainAttrs_list PySem.F.slot_list_pop PySem.F.type_list_pop mt_popAt (pe_ix ix_list (pv 0) (pv 1) (fun _ _ => rfl)) (pa_cons (pv 2) pa_nil)))
    (pss_cons (ps_expr (pe_bm PySem.F.plainAttrs_list PySem.F.slot_list_append PySem.F.type_list_append mt_append (pe_ix ix_list (pv 0) (pv 3) (fun _ _ => rfl)) (pa_cons (pv 4) pa_nil)))
    (pss_cons (ps_asg (pe_callB call_sorted rfl m_sorted bb_sorted (pa_cons (pe_ix ix_list (pv 0) (pv 3) (fun _ _ => rfl)) pa_nil)) (pg_sub (pv 0) (pv 3) set_list))
    (pss_one (ps_ret (pe_callB (call_sortedL (hu100 hr)) rfl m_sorted bb_sorted (pa_cons (pe_comp rfl (pi_list (pv 0)) rfl rfl rfl rfl (N := ["_law_room"]) (.own .nil) (fun _ _ _ _ _ _ => (pg_name (i := 0) (by show List.Nodup (["_law_room"] : List Str); decide +kernel) rfl (Or.inl rfl))) (fun _ _ _ _ _ _ => (pts_one (pt_cmpR op_gt (pe_callB (call_len_seqK (K := K) rfl) rfl m_len bb_len (pa_cons (pv 0) pa_nil)) pe_int (nomark _)))) (fun _ _ _ _ _ _ => (pv 0))) pa_nil)))))), ?_⟩
  obtain ⟨xs, el, lxs⟩ := hl.len
  obtain ⟨b, xb, hb, h0b, nb⟩ := hl.get el hi
  have lrm : (r.map V.int).length = r.length := List.length_map _
  have li : i < rs.length := (List.getElem?_eq_some_iff.mp hi).1
  have lr : r.length ≤ 40 := Nat.le_trans (len_one rs r (List.mem_of_getElem? hi)) hz2
  have gj : (r.map V.int)[j]? = some (.int (r.getD j 0)) := by rw [List.getElem?_map, List.getElem?_eq_getElem hj, List.getD_eq_getElem?_getD, List.getElem?_eq_getElem hj]; rfl
  refine ⟨_, rfl, _, rfl, l, _, _, _, rfl, rfl, SqL.of el, atI_nat xb, .inl ⟨rfl, _, SqL.of hb⟩, _, rfl, b, _, (j : Int), j, _, rfl, rfl, hb, by omega, by omega, (ixN_seq (ixN_nat (n := (r.map V.int).length) (i := (j : Int)) (by omega) (by omega))).1, gj, ?_⟩
  rw [map_erase]
  have l2 := hl.put el xb (r.eraseIdx j)
  have s2 : Same H0 (upd H b (.lst ((r.eraseIdx j).map V.int))) := s0.upd h0b _
  have el2 : upd H b (.lst ((r.eraseIdx j).map V.int)) l = some (.lst xs) := (upd_ne (Ne.symm nb)).trans el
  have fl2 := flat_set_len (ms := r.eraseIdx j) hi
  have le2 : (r.eraseIdx j).length + 1 = r.length := by rw [List.length_eraseIdx, if_pos hj]; omega
  have ln2 : (rs.set i (r.eraseIdx j)).length = rs.length := List.length_set
  generalize upd H b (.lst ((r.eraseIdx j).map V.int)) = H2 at l2 s2 el2 ⊢
  generalize rs.set i (r.eraseIdx j) = rs2 at l2 fl2 ln2
  have hk2 := List.getElem?_eq_getElem (show k < rs2.length by omega)
  obtain ⟨c, xc, hc, h0c, nc⟩ := l2.get el2 hk2
  generalize rs2[k] = r2 at hk2 hc
  have lr2 : r2.length ≤ 40 := Nat.le_trans (len_one rs2 r2 (List.mem_of_getElem? hk2)) (by omega)
  refine ⟨_, rfl, _, rfl, l, _, _, _, rfl, rfl, SqL.of el2, atI_nat xc, .inl ⟨rfl, _, SqL.of hc⟩, _, rfl, c, _, _, rfl, rfl, hc, by rw [List.length_map]; exact sz' (by omega), ?_⟩
  have em : r2.map V.int ++ [V.int (r.getD j 0)] = (r2 ++ [r.getD j 0]).map V.int := by rw [List.map_append]; rfl
  rw [em]
  have l3 := l2.put el2 xc (r2 ++ [r.getD j 0])
  have s3 : Same H0 (upd H2 c (.lst ((r2 ++ [r.getD j 0]).map V.int))) := s2.upd h0c _
  have el3 : upd H2 c (.lst ((r2 ++ [r.getD j 0]).map V.int)) l = some (.lst xs) := (upd_ne (Ne.symm nc)).trans el2
  have hc3 : upd H2 c (.lst ((r2 ++ [r.getD j 0]).map V.int)) c = some (.lst ((r2 ++ [r.getD j 0]).map V.int)) := upd_same
  have fl3 := flat_set_len (ms := r2 ++ [r.getD j 0]) hk2
  rw [List.length_append] at fl3
  have fl3 : (rs2.set k (r2 ++ [r.getD j 0])).flatten.length + r2.length = rs2.flatten.length + (r2.length + 1) := fl3
  have ln3 : (rs2.set k (r2 ++ [r.getD j 0])).length = rs2.length := List.length_set
  have hk3 : (rs2.set k (r2 ++ [r.getD j 0]))[k]? = some (r2 ++ [r.getD j 0]) := List.getElem?_set_self (by omega)
  generalize upd H2 c (.lst ((r2 ++ [r.getD j 0]).map V.int)) = H3 at l3 s3 el3 hc3 ⊢
  generalize rs2.set k (r2 ++ [r.getD j 0]) = rs3 at l3 fl3 ln3 hk3
  have l41 : (r2 ++ [r.getD j 0]).length ≤ 41 := by rw [List.length_append]; show r2.length + 1 ≤ 41; omega
  generalize r2 ++ [r.getD j 0] = r3 at hc3 hk3 l41
  refine ⟨_, rfl, _, rfl, l, _, _, _, rfl, rfl, SqL.of el3, atI_nat xc, c, r3, rfl, SqL.of hc3, by omega, fun d ms hd hp hs => ?_⟩
  have s4 := Same.new (Same.refl H3) hd (.lst (ms.map V.int))
  have el4 := s4 _ _ el3
  have lm := hp.length_eq
  refine ⟨_, rfl, _, rfl, l, _, _, _, rfl, rfl, el4, ixN_nat (n := xs.length) (i := (k : Int)) (by omega) (by omega), ?_⟩
  have l5 := l3.exch el3 s4 hd upd_same (s3.free hd) k
  have fl5 := flat_set_len (ms := ms) hk3
  have ln5 : (rs3.set k ms).length = rs3.length := List.length_set
  have s5 : Same H0 (upd (upd H3 d (.lst (ms.map V.int))) l (.lst (xs.set k (.ref d)))) := (s3.trans s4).upd f0 _
  rw [show ((k : Int)).toNat = k by omega]
  generalize upd (upd H3 d (.lst (ms.map V.int))) l (.lst (xs.set k (.ref d))) = H5 at l5 s5 ⊢
  generalize rs3.set k ms = rs5 at l5 fl5 ln5
  obtain ⟨bs, el5, ro5, nd5⟩ := l5
  have lbs : bs.length = rs5.length := Paired.length ro5
  refine ⟨_, rfl, l, rfl, ⟨_, SqL.of el5⟩, fun D hD => comp_walk (xs := bs.map V.ref) (fun k zs H' => ∃ cs : List Addr, Same H5 H' ∧ H' D = some (.lst zs) ∧ zs = cs.map V.ref ∧ RoomsAt H0 H' D cs ((rs5.take k).filter fun r => decide (r ≠ [])) ∧ cs.Sublist (bs.take k) ∧ k ≤ rs5.length) (sz (by rw [List.length_map]; omega)) ⟨[], Same.new (Same.refl H5) hD _, upd_same, rfl, .nil, List.Sublist.refl _, Nat.zero_le _⟩ (fun k zs H' hk h => ?_) (fun k v zs H' R R0 hx h r r0 => ?_) (fun zs H' h => ?_)⟩
  · obtain ⟨cs, sm, hy, rfl, ro, su, hk'⟩ := h
    refine ⟨SqL.of (sm _ _ el5), ?_⟩
    rw [List.length_map]
    have := su.length_le
    rw [List.length_take] at this
    omega
  · obtain ⟨cs, sm, hy, rfl, ro, su, hk'⟩ := h
    have hlt : k < bs.length := by
      have := (List.getElem?_eq_some_iff.mp hx).1
      rw [List.length_map] at this
      exact this
    have hr5 := List.getElem?_eq_getElem (show k < rs5.length by omega)
    obtain ⟨b5, gb5, hb5, h05, _⟩ := ro5.get hr5
    generalize rs5[k] = r5 at hr5 hb5
    have ev : v = .ref b5 := by
      rw [List.getElem?_map, gb5] at hx
      injection hx with hx
      exact hx.symm
    subst ev
    have hb6 := sm _ _ hb5
    have nbD : b5 ≠ D := ne_of_none hb5 hD
    have et : rs5.take (k + 1) = rs5.take k ++ [r5] := by rw [List.take_add_one, hr5]; rfl
    have eb : bs.take (k + 1) = bs.take k ++ [b5] := by rw [List.take_add_one, gb5]; rfl
    refine ⟨Ext.set rfl, ⟨_, rfl, b5, _, rfl, .inl (SqL.of hb6), _, _, rfl, rfl, _, rfl, ?_⟩⟩
    by_cases c : (((r5.map V.int).length : Nat) : Int) > 0
    · have ne5 : r5 ≠ [] := fun z => by subst z; simp at c
      refine iteP c ⟨_, rfl, r _ _ hy ⟨cs ++ [b5], sm.upd hD _, upd_same, by rw [List.map_append]; rfl, ?_, by rw [eb]; exact su.append (List.Sublist.refl _), by omega⟩⟩
      rw [et, List.filter_append, List.filter_cons, if_pos (decide_eq_true ne5), List.filter_nil]
      exact RoomsAt.self (RoomsAt.snoc hb6 h05 nbD ro)
    · have ne5 : r5 = [] := by
        cases r5 with
        | nil => rfl
        | cons x y => simp at c
      refine iteN c (r0 _ ⟨cs, sm, hy, rfl, ?_, by rw [eb]; exact su.trans (List.sublist_append_left _ _), by omega⟩)
      rw [et, List.filter_append, List.filter_cons, if_neg (by simp [ne5]), List.filter_nil, List.append_nil]
      exact ro
  · obtain ⟨cs, sm, hy, rfl, ro, su, hk'⟩ := h
    rw [List.length_map, List.take_of_length_le (by omega)] at ro su
    have lf : LLs H0 H' D (rs5.filter fun r => decide (r ≠ [])) := ⟨cs, hy, ro, nd5.sublist su⟩
    have lfl := flat_filter_len (fun r => decide (r ≠ [])) rs5
    have lft : (rs5.filter fun r => decide (r ≠ [])).length ≤ rs5.length := List.length_filter_le _ _
    refine ⟨D, H0, _, rfl, lf, by omega, fun pq ss H6 s6 f6 l6 hp6 _ _ => ?_⟩
    have e6 := flat_perm_len hp6
    have e7 := hp6.length_eq
    exact q pq ss H6 (s5.trans (sm.trans s6)) ((s5.trans sm).free f6) l6 (by omega) (by omega) fun r hr => Nat.le_trans (len_one ss r hr) (by omega)
theorem ok__law_number {er : Er1} (EO : Er1Ok K mg er) {ca : ClA} (CA : ClOk K mg ca) {f : Addr} {fd : FuncData} (F : Fun K "_law_number" "_law_number" s__law_number f fd) : FnOk P w K mg base CX0 1 f fd ["_law_draw", "_law_cell", "_law_top"] (sp__law_number K ca) := by
  refine F.ok sc__law_number (fun vs H Q E h => ?_) (fun cdv A outer s H vs Q E hr h => ?_)
  · obtain ⟨d, c, t, rfl, t0, q⟩ := h
    rfl
  obtain ⟨d, c, t, rfl, t0, q⟩ := h
  refine ⟨_, pss_cons (ps_if (pt_cmpR op_eq (pe_op op_mod (pv 0) pe_int) pe_int (nomark _)) (pss_one (ps_ret (pe_op op_mul (pe_op op_mod (pv 1) (pe_op op_pow pe_int pe_int)) (pe_op op_sub pe_int (pe_op op_mul (pe_op op_mod (pe_op op_fdivL (pv 0) pe_int) pe_int) pe_int))))) pss_nil)
    (pss_one (ps_ret (pe_op op_sub (pe_op op_mod (pe_op op_fdivL (pv 0) pe_int) (pe_op op_add (pv 2) pe_int)) pe_int))), ?_⟩
  have e0 := Int.emod_nonneg (d / 4) (show (2 : Int) ≠ 0 by decide)
  have e1 := Int.emod_lt_of_pos (d / 4) (show (0 : Int) < 2 by decide)
  refine ⟨_, rfl, _, _, rfl, rfl, pm (by decide), rfl, _, rfl, ite2 (fun _ => ?_) (fun _ => ?_)⟩
  · refine ⟨_, rfl, _, _, rfl, rfl, ⟨by decide, by decide, by decide⟩, _, _, rfl, rfl, (by show (0 : Int) < 10 ^ 60; decide), _, rfl, _, _, rfl, rfl, ⟨by decide, by decide +kernel⟩, _, _, rfl, rfl, pm (by decide), ?_⟩
    try dsimp only
    generalize d / 4 % 2 = e at e0 e1 ⊢
    exact ⟨_, _, rfl, rfl, .inl ⟨by omega, by omega⟩, _, _, rfl, rfl, _, _, rfl, rfl, .inr ⟨by omega, by omega⟩, q _⟩
  · exact ⟨_, rfl, _, _, rfl, rfl, ⟨by decide, by decide +kernel⟩, _, rfl, _, _, rfl, rfl, _, _, rfl, rfl, by omega, _, _, rfl, rfl, q _⟩
theorem ok__law_changed {er : Er1} (EO : Er1Ok K mg er) {ca : ClA} (CA : ClOk K mg ca) {f : Addr} {fd : FuncData} (F : Fun K "_law_changed" "_law_changed" s__law_changed f fd) {f0 : Addr} {fd0 : FuncData} (d__law_moved : Def P w K mg base "_law_moved" ["_law_rooms_here", "_law_at", "_law_place", "_law_to"] 1 (sp__law_moved K ca) f0 fd0) {f1 : Addr} {fd1 : FuncData} (d__law_number : Def P w K mg base "_law_number" ["_law_draw", "_law_cell", "_law_top"] 1 (sp__law_number K ca) f1 fd1) (m_len : mg "len" = none) (m_list : mg "list" = none) (m_sorted : mg "sorted" = none) : FnOk P w K mg base CX0 2 f fd ["_law_rooms_here", "_law_draws_here", "_law_far", "_law_turn"] (sp__law_changed K ca) := by
  refine F.ok sc__law_changed (fun vs H Q E h => ?_) (fun cdv A outer s H vs Q E hr h => ?_)
  · obtain ⟨l, d, H0, rs, xs, far, t, rfl, hl, s0, f0, hd, h0, hne, hz, hz2, lx, t2, t10, q⟩ := h
    rfl
  obtain ⟨l, d, H0, rs, xs, far, t, rfl, hl, s0, f0, hd, h0, hne, hz, hz2, lx, t2, t10, q⟩ := h
  refine ⟨_, pss_cons (ps_set (i := 4) sc__law_changed.nd rfl (Or.inl rfl) (pe_op op_mod (pe_ix ix_list (pv 1) pe_int (fun _ _ => rfl)) (pe_callB call_len_seq rfl m_len bb_len (pa_cons (pv 0) pa_nil))))
    (pss_cons (ps_set (i := 5) sc__law_changed.nd rfl (Or.inl rfl) (pe_op op_mod (pe_ix ix_list (pv 1) pe_int (fun _ _ => rfl)) (pe_callB call_len_seq rfl m_len bb_len (pa_cons (pv 0) pa_nil))))
    (pss_cons (ps_set (i := 6) sc__law_changed.nd rfl (Or.inl rfl) (pe_op op_mod (pe_ix ix_list (pv 1) pe_int (fun _ _ => rfl)) (pe_callB call_len_seq rfl m_len bb_len (pa_cons (pe_ix ix_list (pv 0) (pv 4) (fun _ _ => rfl)) pa_nil))))
    (pss_cons (ps_if (pt_cmpR op_eq (pv 3) pe_int (nomark _)) (pss_one (ps_ret (pcall d__law_moved hr (pa_cons (pv 0) (pa_cons (pv 4) (pa_cons (pv 6) (pa_cons (pv 5) pa_nil))))))) pss_nil)
    (pss_cons (ps_if (pt_cmpR op_eq (pv 3) pe_int (nomark _)) (pss_one (ps_asg (pcall d__law_number hr (pa_cons (pe_ix ix_list (pv 1) pe_int (fun _ _ => rfl)) (pa_cons (pv 2) (pa_cons (pe_op op_add (pe_callB call_len_seq rfl m_len bb_len (pa_cons (pv 0) pa_nil)) (pe_callB call_len_seq rfl m_len bb_len (pa_cons (pe_ix ix_list (pv 0) (pv 4) (fun _ _ => rfl)) pa_nil))) pa_nil)))) (pg_sub (pe_ix ix_list (pv 0) (pv 4) (fun _ _ => rfl)) (pv 6) set_list))) pss_nil)
    (pss_cons (ps_if (pt_cmpR op_eq (pv 3) pe_int (nomark _)) (pss_one (ps_expr (pe_bm PySem.F.plainAttrs_list PySem.F.slot_list_insert PySem.F.type_list_insert mt_insert (pv 0) (pa_cons (pv 5) (pa_cons (pe_lst pa_nil) pa_nil))))) pss_nil)
    (pss_cons (ps_if (pt_cmpR op_eq (pv 3) pe_int (nomark _)) (pss_one (ps_expr (pe_bm PySem.F.plainAttrs_list PySem.F.slot_list_pop PySem.F.type_list_pop mt_popAt (pv 0) (pa_cons (pv 4) pa_nil)))) pss_nil)
    (pss_cons (ps_if (pt_cmpR op_eq (pv 3) pe_int (nomark _)) (pss_one (ps_expr (pe_bm PySem.F.plainAttrs_list PySem.F.slot_list_insert PySem.F.type_list_insert mt_insert (pv 0) (pa_cons (pv 5) (pa_cons (pe_callTy call_list_of rfl m_list bb_list (pa_cons (pe_ix ix_list (pv 0) (pv 4) (fun _ _ => rfl)) pa_nil)) pa_nil))))) pss_nil)
    (pss_cons (ps_if (pt_cmpR op_eq (pv 3) pe_int (nomark _)) (pss_cons (ps_set (i := 7) sc__law_changed.nd rfl (Or.inl rfl) (pe_ix ix_list (pv 0) (pv 4) (fun _ _ => rfl)))
    (pss_cons (ps_asg (pe_ix ix_list (pv 0) (pv 5) (fun _ _ => rfl)) (pg_sub (pv 0) (pv 4) set_list))
    (pss_one (ps_asg (pv 7) (pg_sub (pv 0) (pv 5) set_list))))) pss_nil)
    (pss_cons (ps_if (pt_cmpR op_eq (pv 3) pe_int (nomark _)) (pss_one (ps_asg (pe_rev (pe_ix ix_list (pv 0) (pv 4) (fun _ _ => rfl)) (pe_un un_neg pe_int) (fun _ _ => rfl)) (pg_sub (pv 0) (pv 4) set_list))) pss_nil)
    (pss_cons (ps_if (pt_cmpR op_eq (pv 3) pe_int (nomark _)) (pss_cons (ps_set (i := 8) sc__law_changed.nd rfl (Or.inr rfl) (pe_ix ix_list (pe_lst (pa_cons pe_int (pa_cons (pe_un un_neg pe_int) (pa_cons pe_int pa_nil)))) (pe_op op_mod (pe_ix ix_list (pv 1) pe_int (fun _ _ => rfl)) pe_int) (fun _ _ => rfl)))
    (pss_one (ps_ret (pe_comp rfl (pi_list (pv 0)) rfl rfl rfl rfl (N := ["_law_room", "_law_step"]) (.own (.cap (j := 8) rfl rfl rfl .nil)) (fun _ _ _ _ _ _ => (pg_name (i := 0) (by show List.Nodup (["_law_room", "_law_step"] : List Str); decide +kernel) rfl (Or.inl rfl))) (fun _ _ _ _ _ _ => pts_nil) (fun _ _ _ _ _ _ => (pe_comp rfl (pi_list (pv 0)) rfl rfl rfl rfl (wi := iList K (tVar 0)) (g := gName 0) (tt := ttNil) (te := tOp (rI0 fun i j => .int (i + j)) (tVar 0) (tVar 1)) (ix := [none, some 1]) (N := ["_law_number_here", "_law_step"]) (.own (.cap (j := 1) rfl rfl rfl .nil)) (fun _ _ _ _ _ _ => (pg_name (i := 0) (by show List.Nodup (["_law_number_here", "_law_step"] : List Str); decide +kernel) rfl (Or.inl rfl))) (fun _ _ _ _ _ _ => pts_nil) (fun _ _ _ _ _ _ => (pe_op op_add (pv 0) (pv 1))))))))) pss_nil)
    (pss_cons (ps_if (pt_cmpR op_eq (pv 3) pe_int (nomark _)) (pss_one (ps_asg (pe_callB call_sorted rfl m_sorted bb_sorted (pa_cons (pe_op op_cat (pe_ix ix_list (pv 0) (pv 5) (fun _ _ => rfl)) (pe_lst (pa_cons (pe_ix ix_list (pe_ix ix_list (pv 0) (pv 4) (fun _ _ => rfl)) (pv 6) (fun _ _ => rfl)) pa_nil))) pa_nil)) (pg_sub (pv 0) (pv 5) set_list))) pss_nil)
    (pss_one (ps_ret (pv 0)))))))))))))), ?_⟩
  obtain ⟨xs_, el, ly⟩ := hl.len
  have lb : ∀ r ∈ rs, r.length ≤ 40 := fun r hr => Nat.le_trans (len_one rs r hr) hz2
  have at0 := atI_int (ns := xs) (i := 0) (by decide) (by omega)
  have at1 := atI_int (ns := xs) (i := 1) (by decide) (by omega)
  have at2 := atI_int (ns := xs) (i := 2) (by decide) (by omega)
  have at3 := atI_int (ns := xs) (i := 3) (by decide) (by omega)
  generalize xs.getD (0 : Int).toNat 0 = d0 at at0
  generalize xs.getD (1 : Int).toNat 0 = d1 at at1
  generalize xs.getD (2 : Int).toNat 0 = d2 at at2
  generalize xs.getD (3 : Int).toNat 0 = d3 at at3
  refine ⟨_, rfl, d, _, _, _, rfl, rfl, SqL.of hd, at0, _, rfl, l, _, rfl, .inl (SqL.of el), _, _, rfl, rfl, (by omega), ?_⟩
  try dsimp only
  have a0 := Int.emod_nonneg d0 (show (xs_.length : Int) ≠ 0 by omega)
  have a1 := Int.emod_lt_of_pos d0 (show (0 : Int) < (xs_.length : Int) by omega)
  generalize d0 % (xs_.length : Int) = at_ at a0 a1 ⊢
  refine ⟨_, rfl, d, _, _, _, rfl, rfl, SqL.of hd, at1, _, rfl, l, _, rfl, .inl (SqL.of el), _, _, rfl, rfl, (by omega), ?_⟩
  try dsimp only
  have b0 := Int.emod_nonneg d1 (show (xs_.length : Int) ≠ 0 by omega)
  have b1 := Int.emod_lt_of_pos d1 (show (0 : Int) < (xs_.length : Int) by omega)
  generalize d1 % (xs_.length : Int) = to_ at b0 b1 ⊢
  obtain ⟨i, rfl⟩ : ∃ i : Nat, at_ = (i : Int) := ⟨at_.toNat, by omega⟩
  obtain ⟨k, rfl⟩ : ∃ k : Nat, to_ = (k : Int) := ⟨to_.toNat, by omega⟩
  have hi := List.getElem?_eq_getElem (show i < rs.length by omega)
  have hk := List.getElem?_eq_getElem (show k < rs.length by omega)
  obtain ⟨b, xb, hb, h0b, nb⟩ := hl.get el hi
  obtain ⟨c, xc, hc, h0c, nc⟩ := hl.get el hk
  have ner : rs[i] ≠ [] := hne _ (List.getElem_mem _)
  generalize rs[i] = r at hi hb ner
  generalize rs[k] = r2 at hk hc
  have mr := List.mem_of_getElem? hi
  have mr2 := List.mem_of_getElem? hk
  have lr := lb r mr
  have lr2 := lb r2 mr2
  have pr : 0 < r.length := List.length_pos_iff.mpr ner
  have lrm : (r.map V.int).length = r.length := List.length_map _
  have xb' := atI_nat xb
  have xc' := atI_nat xc
  refine ⟨_, rfl, d, _, _, _, rfl, rfl, SqL.of hd, at2, _, rfl, _, rfl, l, _, _, _, rfl, rfl, SqL.of el, xb', b, _, rfl, .inl (SqL.of hb), _, _, rfl, rfl, (by omega), ?_⟩
  try dsimp only
  have c0 := Int.emod_nonneg d2 (show (((r.map V.int).length : Nat) : Int) ≠ 0 by omega)
  have c1 := Int.emod_lt_of_pos d2 (show (0 : Int) < (((r.map V.int).length : Nat) : Int) by omega)
  generalize d2 % (((r.map V.int).length : Nat) : Int) = pl_ at c0 c1 ⊢
  obtain ⟨j, rfl⟩ : ∃ j : Nat, pl_ = (j : Int) := ⟨pl_.toNat, by omega⟩
  have hj : j < r.length := by omega
  have ixi := ixN_nat (n := xs_.length) (i := (i : Int)) a0 a1
  have ixk := ixN_nat (n := xs_.length) (i := (k : Int)) b0 b1
  have ixj := ixN_nat (n := (r.map V.int).length) (i := (j : Int)) c0 c1
  rw [show ((i : Int)).toNat = i by omega] at ixi
  rw [show ((k : Int)).toNat = k by omega] at ixk
  rw [show ((j : Int)).toNat = j by omega] at ixj
  have atj := atI_int (ns := r) (i := (j : Int)) (by omega) (by omega)
  rw [show ((j : Int)).toNat = j by omega] at atj
  rcases (by omega : t = 2 ∨ t = 3 ∨ t = 4 ∨ t = 5 ∨ t = 6 ∨ t = 7 ∨ t = 8 ∨ t = 9 ∨ t = 10) with rfl | rfl | rfl | rfl | rfl | rfl | rfl | rfl | rfl
  · refine ⟨_, rfl, rfl, _, rfl, iteP rfl ?_⟩
    exact ⟨_, rfl, _, rfl, _, rfl, _, rfl, l, H0, rs, i, j, k, r, rfl, hl, s0, f0, by omega, hz2, hi, hj, by omega, fun p ms H' z1 z2 z3 z4 z5 z6 => q p ms H' z1 z2 z3 (by omega) z5 z6⟩
  · refine ⟨_, rfl, rfl, _, rfl, iteN (by decide) ⟨_, rfl, rfl, _, rfl, iteP rfl ?_⟩⟩
    refine ⟨_, rfl, d, _, _, _, rfl, rfl, SqL.of hd, at3, _, rfl, _, rfl, l, _, rfl, .inl (SqL.of el), _, rfl, _, rfl, l, _, _, _, rfl, rfl, SqL.of el, xb', b, _, rfl, .inl (SqL.of hb), _, _, rfl, rfl, _, _, _, rfl, by omega, fun n => ⟨_, rfl, _, rfl, l, _, _, _, rfl, rfl, SqL.of el, xb', _, rfl, b, _, _, _, rfl, rfl, hb, ixj, ?_⟩⟩
    have em : (r.map V.int).set j (.int n) = (r.set j n).map V.int := by rw [List.map_set]
    rw [em]
    have fl := flat_set_len (ms := r.set j n) hi
    rw [List.length_set] at fl
    refine ⟨_, rfl, rfl, _, rfl, iteN (by decide) ⟨_, rfl, rfl, _, rfl, iteN (by decide) ⟨_, rfl, rfl, _, rfl, iteN (by decide) ⟨_, rfl, rfl, _, rfl, iteN (by decide) ⟨_, rfl, rfl, _, rfl, iteN (by decide) ⟨_, rfl, rfl, _, rfl, iteN (by decide) ⟨_, rfl, rfl, _, rfl, iteN (by decide) ⟨_, rfl, ?_⟩⟩⟩⟩⟩⟩⟩⟩
    exact q l _ _ (s0.upd h0b _) f0 (hl.put el xb _) (by rw [List.length_set]; omega) (by omega) fun z hz' => Nat.le_trans (len_one _ z hz') (by omega)
  · refine ⟨_, rfl, rfl, _, rfl, iteN (by decide) ⟨_, rfl, rfl, _, rfl, iteN (by decide) ⟨_, rfl, rfl, _, rfl, iteP rfl ?_⟩⟩⟩
    refine ⟨_, rfl, .inl ⟨rfl, _, SqL.of el⟩, _, rfl, Nat.zero_le _, fun e he => ?_⟩
    have se := Same.new (Same.refl H) he (.lst [])
    refine ⟨l, _, (k : Int), _, rfl, rfl, se _ _ el, by omega, by omega, sz' (by omega), ?_⟩
    have fl := flat_in_len rs (insK xs_.length (k : Int)) []
    have ln : (rs.take (insK xs_.length (k : Int)) ++ [] :: rs.drop (insK xs_.length (k : Int))).length = rs.length + 1 := by simp only [List.length_append, List.length_cons, List.length_take, List.length_drop]; omega
    refine ⟨_, rfl, rfl, _, rfl, iteN (by decide) ⟨_, rfl, rfl, _, rfl, iteN (by decide) ⟨_, rfl, rfl, _, rfl, iteN (by decide) ⟨_, rfl, rfl, _, rfl, iteN (by decide) ⟨_, rfl, rfl, _, rfl, iteN (by decide) ⟨_, rfl, rfl, _, rfl, iteN (by decide) ⟨_, rfl, ?_⟩⟩⟩⟩⟩⟩⟩
    exact q l _ _ ((s0.trans se).upd f0 _) f0 (hl.putIn (ns := []) el se he upd_same (s0.free he) (k : Int)) (by omega) (by rw [fl, List.length_nil]; omega) fun z hz' => Nat.le_trans (len_one _ z hz') (by rw [fl, List.length_nil]; omega)
  · refine ⟨_, rfl, rfl, _, rfl, iteN (by decide) ⟨_, rfl, rfl, _, rfl, iteN (by decide) ⟨_, rfl, rfl, _, rfl, iteN (by decide) ⟨_, rfl, rfl, _, rfl, iteP rfl ?_⟩⟩⟩⟩
    refine ⟨_, rfl, .inl ⟨rfl, _, SqL.of el⟩, _, rfl, l, _, (i : Int), i, _, rfl, rfl, el, by omega, by omega, (ixN_seq ixi).1, xb, ?_⟩
    have fl := flat_out_len rs i
    have ln := List.length_eraseIdx_le rs i
    refine ⟨_, rfl, rfl, _, rfl, iteN (by decide) ⟨_, rfl, rfl, _, rfl, iteN (by decide) ⟨_, rfl, rfl, _, rfl, iteN (by decide) ⟨_, rfl, rfl, _, rfl, iteN (by decide) ⟨_, rfl, rfl, _, rfl, iteN (by decide) ⟨_, rfl, ?_⟩⟩⟩⟩⟩⟩
    exact q l _ _ (s0.upd f0 _) f0 (hl.out el i) (by omega) (by omega) fun z hz' => Nat.le_trans (len_one _ z hz') (by omega)
  · refine ⟨_, rfl, rfl, _, rfl, iteN (by decide) ⟨_, rfl, rfl, _, rfl, iteN (by decide) ⟨_, rfl, rfl, _, rfl, iteN (by decide) ⟨_, rfl, rfl, _, rfl, iteN (by decide) ⟨_, rfl, rfl, _, rfl, iteP rfl ?_⟩⟩⟩⟩⟩
    refine ⟨_, rfl, .inl ⟨rfl, _, SqL.of el⟩, _, rfl, _, rfl, _, rfl, l, _, _, _, rfl, rfl, SqL.of el, xb', b, _, rfl, .inl (SqL.of hb), fun e he => ?_⟩
    have se := Same.new (Same.refl H) he (.lst (r.map V.int))
    refine ⟨l, _, (k : Int), _, rfl, rfl, se _ _ el, by omega, by omega, sz' (by omega), ?_⟩
    have fl := flat_in_len rs (insK xs_.length (k : Int)) r
    have ln : (rs.take (insK xs_.length (k : Int)) ++ r :: rs.drop (insK xs_.length (k : Int))).length = rs.length + 1 := by simp only [List.length_append, List.length_cons, List.length_take, List.length_drop]; omega
    refine ⟨_, rfl, rfl, _, rfl, iteN (by decide) ⟨_, rfl, rfl, _, rfl, iteN (by decide) ⟨_, rfl, rfl, _, rfl, iteN (by decide) ⟨_, rfl, rfl, _, rfl, iteN (by decide) ⟨_, rfl, ?_⟩⟩⟩⟩⟩
    refine q l _ _ ((s0.trans se).upd f0 _) f0 (hl.putIn el se he upd_same (s0.free he) (k : Int)) (by omega) (by rw [fl]; omega) fun z hz' => ?_
    rcases List.mem_append.mp hz' with w | w
    · have := lb z (List.mem_of_mem_take w); omega
    · rcases List.mem_cons.mp w with w | w
      · rw [w]; omega
      · have := lb z (List.mem_of_mem_drop w); omega
  · refine ⟨_, rfl, rfl, _, rfl, iteN (by decide) ⟨_, rfl, rfl, _, rfl, iteN (by decide) ⟨_, rfl, rfl, _, rfl, iteN (by decide) ⟨_, rfl, rfl, _, rfl, iteN (by decide) ⟨_, rfl, rfl, _, rfl, iteN (by decide) ⟨_, rfl, rfl, _, rfl, iteP rfl ?_⟩⟩⟩⟩⟩⟩
    refine ⟨_, rfl, _, rfl, l, _, _, _, rfl, rfl, SqL.of el, xb', ?_⟩
    refine ⟨_, rfl, _, rfl, l, _, _, _, rfl, rfl, SqL.of el, xc', _, rfl, _, rfl, l, _, _, _, rfl, rfl, el, ixi, ?_⟩
    have ixk2 := ixN_nat (n := (xs_.set i (V.ref c)).length) (i := (k : Int)) b0 (by rw [List.length_set]; exact b1)
    rw [show ((k : Int)).toNat = k by omega] at ixk2
    refine ⟨_, rfl, _, rfl, _, rfl, l, _, _, _, rfl, rfl, upd_same, ixk2, ?_⟩
    have pm : ((rs.set i r2).set k r).Perm rs := by
      obtain ⟨li, ei⟩ := List.getElem?_eq_some_iff.mp hi
      obtain ⟨lk, ek⟩ := List.getElem?_eq_some_iff.mp hk
      have := List.set_set_perm (as := rs) (i := i) (j := k) li lk
      rw [ei, ek] at this
      exact this
    have fl := flat_perm_len pm
    refine ⟨_, rfl, rfl, _, rfl, iteN (by decide) ⟨_, rfl, rfl, _, rfl, iteN (by decide) ⟨_, rfl, rfl, _, rfl, iteN (by decide) ⟨_, rfl, ?_⟩⟩⟩⟩
    exact q l _ _ ((s0.upd f0 _).upd f0 _) f0 (hl.swap2 el hi hk xb xc) (by rw [pm.length_eq]; omega) (by omega) fun z hz' => Nat.le_trans (len_one _ z hz') (by omega)
  · refine ⟨_, rfl, rfl, _, rfl, iteN (by decide) ⟨_, rfl, rfl, _, rfl, iteN (by decide) ⟨_, rfl, rfl, _, rfl, iteN (by decide) ⟨_, rfl, rfl, _, rfl, iteN (by decide) ⟨_, rfl, rfl, _, rfl, iteN (by decide) ⟨_, rfl, rfl, _, rfl, iteN (by decide) ⟨_, rfl, rfl, _, rfl, iteP rfl ?_⟩⟩⟩⟩⟩⟩⟩
    refine ⟨_, rfl, _, rfl, l, _, _, _, rfl, rfl, SqL.of el, xb', _, rfl, b, _, rfl, rfl, SqL.of hb, fun e he => ?_⟩
    rw [← List.map_reverse]
    have se := Same.new (Same.refl H) he (.lst (r.reverse.map V.int))
    refine ⟨_, rfl, _, rfl, l, _, _, _, rfl, rfl, se _ _ el, ixi, ?_⟩
    have fl := flat_set_len (ms := r.reverse) hi
    rw [List.length_reverse] at fl
    refine ⟨_, rfl, rfl, _, rfl, iteN (by decide) ⟨_, rfl, rfl, _, rfl, iteN (by decide) ⟨_, rfl, ?_⟩⟩⟩
    exact q l _ _ ((s0.trans se).upd f0 _) f0 (hl.exch el se he upd_same (s0.free he) i) (by rw [List.length_set]; omega) (by omega) fun z hz' => Nat.le_trans (len_one _ z hz') (by omega)
  · refine ⟨_, rfl, rfl, _, rfl, iteN (by decide) ⟨_, rfl, rfl, _, rfl, iteN (by decide) ⟨_, rfl, rfl, _, rfl, iteN (by decide) ⟨_, rfl, rfl, _, rfl, iteN (by decide) ⟨_, rfl, rfl, _, rfl, iteN (by decide) ⟨_, rfl, rfl, _, rfl, iteN (by decide) ⟨_, rfl, rfl, _, rfl, iteN (by decide) ⟨_, rfl, rfl, _, rfl, iteP rfl ?_⟩⟩⟩⟩⟩⟩⟩⟩
    refine ⟨_, rfl, sz (n := 3) (by decide), fun pk hpk => ?_⟩
    have npk : d ≠ pk := ne_of_none hd hpk
    have sk := Same.new (Same.refl H) hpk (.lst [.int 1, .int (-1), .int 2])
    have hk2 : upd H pk (.lst [.int 1, .int (-1), .int 2]) pk = some (.lst [.int 1, .int (-1), .int 2]) := upd_same
    generalize upd H pk (.lst [.int 1, .int (-1), .int 2]) = H2 at sk hk2 ⊢
    have e0 := Int.emod_nonneg d3 (show (3 : Int) ≠ 0 by decide)
    have e1 := Int.emod_lt_of_pos d3 (show (0 : Int) < 3 by decide)
    refine ⟨_, rfl, d, _, _, _, rfl, rfl, SqL.of (sk _ _ hd), at3, _, _, rfl, rfl, pm (by decide), ?_⟩
    try dsimp only
    generalize d3 % 3 = e at e0 e1 ⊢
    obtain ⟨st, est⟩ : ∃ st : Int, atI [V.int 1, .int (-1), .int 2] e = some (.int st) := by
      rcases (by omega : e = 0 ∨ e = 1 ∨ e = 2) with rfl | rfl | rfl
      all_goals exact ⟨_, rfl⟩
    refine ⟨pk, _, _, _, rfl, rfl, SqL.of hk2, est, ?_⟩
    have hl2 := hl.same sk
    have el2 := sk _ _ el
    refine ⟨_, rfl, l, rfl, ⟨_, SqL.of el2⟩, fun D hD => comp_walk (xs := xs_) (fun k ys H' => Same H2 H' ∧ H' D = some (.lst ys) ∧ LLs H2 H' D ((rs.take k).map (rai st)) ∧ k ≤ rs.length) (sz (by omega)) ⟨Same.new (Same.refl H2) hD _, upd_same, LLs.nil upd_same, Nat.zero_le _⟩ (fun k ys H' hk h => ⟨SqL.of (h.1 _ _ el2), ?_⟩) (fun k v ys H' R R0 hx h r_ r0 => ?_) (fun ys H' h => ?_)⟩
    · obtain ⟨us, eu, lu⟩ := h.2.2.1.len
      rw [h.2.1] at eu
      cases eu
      rw [lu, List.length_map, List.length_take]
      omega
    · obtain ⟨sk9, hy, lk, hk9⟩ := h
      obtain ⟨b9, ns, rfl, hn, hb9, _⟩ := hl2.at el2 hx
      have hlt : k < rs.length := (List.getElem?_eq_some_iff.mp hn).1
      have ln9 := lb ns (List.mem_of_getElem? hn)
      have hb10 := sk9 _ _ hb9
      have nm : (ns.map V.int).length = ns.length := List.length_map _
      refine ⟨Ext.set rfl, ttN (iteT ⟨_, rfl, b9, rfl, ⟨_, SqL.of hb10⟩, fun D2 hD2 => comp_list (fun v => match v with | .int c => .int (c + st) | v => v) (by rw [nm]; exact sz (by omega)) (SqL.of hb10) hD2 (fun i x H9 R9 R09 hx9 hb99 hR9 => ?_) ?_⟩)⟩
      · obtain ⟨c9, rfl⟩ := get_int hx9
        exact ⟨Ext.set rfl, ttN (iteT ⟨_, rfl, _, rfl, _, _, rfl, rfl, hR9⟩)⟩
      · have em : (ns.map V.int).map (fun v => match v with | .int c => V.int (c + st) | v => v) = (rai st ns).map V.int := by unfold rai; rw [List.map_map, List.map_map]; rfl
        rw [em]
        have k9 := Same.new (Same.refl H') hD2 (.lst ((rai st ns).map V.int))
        refine r_ _ _ (k9 _ _ hy) ⟨(sk9.trans k9).upd hD _, upd_same, ?_, hlt⟩
        rw [List.take_add_one, hn, List.map_append]
        exact lk.push hy k9 hD2 upd_same (sk9.free hD2)
    · obtain ⟨sk9, hy, lk, hk9⟩ := h
      rw [List.take_of_length_le (by omega)] at lk
      have s09 := s0.trans sk
      have fl : (rs.map (rai st)).flatten.length = rs.flatten.length := by
        rw [List.length_flatten, List.length_flatten, List.map_map]
        congr 1
        exact List.map_congr_left fun z _ => rai_len st z
      exact q D _ H' (s09.trans sk9) (s09.free hD) (lk.since s09) (by rw [List.length_map]; omega) (by omega) fun z hz' => Nat.le_trans (len_one _ z hz') (by omega)
  · refine ⟨_, rfl, rfl, _, rfl, iteN (by decide) ⟨_, rfl, rfl, _, rfl, iteN (by decide) ⟨_, rfl, rfl, _, rfl, iteN (by decide) ⟨_, rfl, rfl, _, rfl, iteN (by decide) ⟨_, rfl, rfl, _, rfl, iteN (by decide) ⟨_, rfl, rfl, _, rfl, iteN (by decide) ⟨_, rfl, rfl, _, rfl, iteN (by decide) ⟨_, rfl, rfl, _, rfl, iteN (by decide) ⟨_, rfl, rfl, _, rfl, iteP rfl ?_⟩⟩⟩⟩⟩⟩⟩⟩⟩
    refine ⟨_, rfl, _, rfl, l, _, _, _, rfl, rfl, SqL.of el, xc', _, rfl, _, rfl, l, _, _, _, rfl, rfl, SqL.of el, xb', _, rfl, b, _, _, _, rfl, rfl, SqL.of hb, atj, sz (n := 1) (by decide), fun e he => ?_⟩
    have se := Same.new (Same.refl H) he (.lst [.int (r.getD j 0)])
    refine ⟨c, e, r2.map V.int, [.int (r.getD j 0)], rfl, rfl, se _ _ hc, upd_same, by rw [List.length_map]; exact sz (by show r2.length + 1 ≤ _; omega), fun g hg => ?_⟩
    have em : r2.map V.int ++ [V.int (r.getD j 0)] = (r2 ++ [r.getD j 0]).map V.int := by rw [List.map_append]; rfl
    rw [em]
    have sg := Same.new se hg (.lst ((r2 ++ [r.getD j 0]).map V.int))
    have lg : (r2 ++ [r.getD j 0]).length = r2.length + 1 := by rw [List.length_append]; rfl
    refine ⟨g, _, rfl, SqL.of upd_same, by omega, fun w ms hw hp hs => ?_⟩
    have sw := Same.new sg hw (.lst (ms.map V.int))
    have lm := hp.length_eq
    refine ⟨_, rfl, _, rfl, l, _, _, _, rfl, rfl, sw _ _ el, ixk, ?_⟩
    have fl := flat_set_len (ms := ms) hk
    refine ⟨_, rfl, ?_⟩
    exact q l _ _ ((s0.trans sw).upd f0 _) f0 (hl.exch el sw (sg.free hw) upd_same ((s0.trans sg).free hw) k) (by rw [List.length_set]; omega) (by omega) fun z hz' => Nat.le_trans (len_one _ z hz') (by omega)
theorem ok__law_dealt {er : Er1} (EO : Er1Ok K mg er) {ca : ClA} (CA : ClOk K mg ca) {f : Addr} {fd : FuncData} (F : Fun K "_law_dealt" "_law_dealt" s__law_dealt f fd) {f0 : Addr} {fd0 : FuncData} (d__law_draws : Def P w K mg base "_law_draws" ["_law_script", "_law_turn", "_law_many"] 1 (sp__law_draws K ca) f0 fd0) (m_range : mg "range" = none) (m_len : mg "len" = none) (m_sorted : mg "sorted" = none) : FnOk P w K mg base CX0 2 f fd ["_law_script"] (sp__law_dealt K ca) := by
  refine F.ok sc__law_dealt (fun vs H Q E h => ?_) (fun cdv A outer s H vs Q E hr h => ?_)
  · obtain ⟨a, ns, rfl, hS, h63, q⟩ := h
    rfl
  obtain ⟨a, ns, rfl, hS, h63, q⟩ := h
  refine ⟨_, pss_cons (ps_set (i := 1) sc__law_dealt.nd rfl (Or.inl rfl) (pcall d__law_draws hr (pa_cons (pv 0) (pa_cons pe_int (pa_cons pe_int pa_nil)))))
    (pss_cons (ps_set (i := 2) sc__law_dealt.nd rfl (Or.inl rfl) (pe_lst (pa_cons (pe_lst pa_nil) (pa_cons (pe_lst pa_nil) (pa_cons (pe_lst pa_nil) (pa_cons (pe_lst pa_nil) pa_nil))))))
    (pss_cons (ps_for PassesOwn.never rfl (pi_range1 rfl m_range (pa_cons (pe_op op_mod (pe_ix ix_list (pv 1) pe_int (fun _ _ => rfl)) pe_int) pa_nil)) (pg_name (i := 3) sc__law_dealt.nd rfl (Or.inl rfl)) (pss_one (ps_expr (pe_bm PySem.F.plainAttrs_list PySem.F.slot_list_append PySem.F.type_list_append mt_append (pe_ix ix_list (pv 2) (pe_op op_mod (pe_ix ix_list (pv 1) (pv 3) (fun _ _ => rfl)) (pe_op op_add pe_int (pe_op op_mod (pe_ix ix_list (pv 1) pe_int (fun _ _ => rfl)) pe_int))) (fun _ _ => rfl)) (pa_cons (pv 3) pa_nil)))))
    (pss_one (ps_ret (pe_callB (call_sortedL (hu100 hr)) rfl m_sorted bb_sorted (pa_cons (pe_comp rfl (pi_list (pv 2)) rfl rfl rfl rfl (N := ["_law_room"]) (.own .nil) (fun _ _ _ _ _ _ => (pg_name (i := 0) (by show List.Nodup (["_law_room"] : List Str); decide +kernel) rfl (Or.inl rfl))) (fun _ _ _ _ _ _ => (pts_one (pt_cmpR op_gt (pe_callB (call_len_seqK (K := K) rfl) rfl m_len bb_len (pa_cons (pv 0) pa_nil)) pe_int (nomark _)))) (fun _ _ _ _ _ _ => (pv 0))) pa_nil)))))), ?_⟩
  refine ⟨_, rfl, a, ns, 301, 10, rfl, hS, h63, by decide, by decide, by decide, by decide, fun pd xs H0 sm0 fd hd lx bx => ?_⟩
  have lx' : xs.length = 10 := by omega
  have at8 := atI_int (ns := xs) (i := 8) (by decide) (by omega)
  have at9 := atI_int (ns := xs) (i := 9) (by decide) (by omega)
  generalize xs.getD (8 : Int).toNat 0 = d8 at at8
  generalize xs.getD (9 : Int).toNat 0 = d9 at at9
  have e80 := Int.emod_nonneg d8 (show (9 : Int) ≠ 0 by decide)
  have e81 := Int.emod_lt_of_pos d8 (show (0 : Int) < 9 by decide)
  have e90 := Int.emod_nonneg d9 (show (3 : Int) ≠ 0 by decide)
  have e91 := Int.emod_lt_of_pos d9 (show (0 : Int) < 3 by decide)
  refine ⟨Nat.zero_le _, fun p1 h1 => ?_⟩
  have t1 := Same.new (Same.refl H0) h1 (.lst [])
  have e1 : upd H0 p1 (.lst []) p1 = some (.lst []) := upd_same
  generalize upd H0 p1 (.lst []) = K1 at t1 e1 ⊢
  refine ⟨Nat.zero_le _, fun p2 h2 => ?_⟩
  have t2 := Same.new (Same.refl K1) h2 (.lst [])
  have e2 : upd K1 p2 (.lst []) p2 = some (.lst []) := upd_same
  generalize upd K1 p2 (.lst []) = K2 at t2 e2 ⊢
  refine ⟨Nat.zero_le _, fun p3 h3 => ?_⟩
  have t3 := Same.new (Same.refl K2) h3 (.lst [])
  have e3 : upd K2 p3 (.lst []) p3 = some (.lst []) := upd_same
  generalize upd K2 p3 (.lst []) = K3 at t3 e3 ⊢
  refine ⟨Nat.zero_le _, fun p4 h4 => ?_⟩
  have t4 := Same.new (Same.refl K3) h4 (.lst [])
  have e4 : upd K3 p4 (.lst []) p4 = some (.lst []) := upd_same
  generalize upd K3 p4 (.lst []) = K4 at t4 e4 ⊢
  refine ⟨sz (n := 4) (by decide), fun pr hpr => ?_⟩
  have t5 := Same.new (Same.refl K4) hpr (.lst [.ref p1, .ref p2, .ref p3, .ref p4])
  have sK : Same H0 (upd K4 pr (.lst [.ref p1, .ref p2, .ref p3, .ref p4])) := t1.trans (t2.trans (t3.trans (t4.trans t5)))
  have frp : H0 pr = none := (t1.trans (t2.trans (t3.trans t4))).free hpr
  have g1 := t4 _ _ (t3 _ _ (t2 _ _ e1))
  have g2 := t4 _ _ (t3 _ _ e2)
  have g3 := t4 _ _ e3
  have n12 : p1 ≠ p2 := ne_of_none e1 h2
  have n13 : p1 ≠ p3 := ne_of_none (t2 _ _ e1) h3
  have n14 : p1 ≠ p4 := ne_of_none (t3 _ _ (t2 _ _ e1)) h4
  have n23 : p2 ≠ p3 := ne_of_none e2 h3
  have n24 : p2 ≠ p4 := ne_of_none (t3 _ _ e2) h4
  have n34 : p3 ≠ p4 := ne_of_none e3 h4
  have L0 : LLs H0 (upd K4 pr (.lst [.ref p1, .ref p2, .ref p3, .ref p4])) pr [[], [], [], []] :=
    ⟨[p1, p2, p3, p4], upd_same, .cons ⟨t5 _ _ g1, h1, ne_of_none g1 hpr⟩ (.cons ⟨t5 _ _ g2, t1.free h2, ne_of_none g2 hpr⟩ (.cons ⟨t5 _ _ g3, (t1.trans t2).free h3, ne_of_none g3 hpr⟩ (.cons ⟨t5 _ _ e4, (t1.trans (t2.trans t3)).free h4, ne_of_none e4 hpr⟩ .nil))), by simp [n12, n13, n14, n23, n24, n34]⟩
  generalize upd K4 pr (.lst [.ref p1, .ref p2, .ref p3, .ref p4]) = K5 at sK L0 ⊢
  refine ⟨_, rfl, pd, _, _, _, rfl, rfl, SqL.of (sK _ _ hd), at8, _, _, rfl, rfl, pm (by decide), _, rfl, by omega, by omega, for_range (lo := 0) (n := (d8 % 9).toNat) (fun i σ H' => ∃ (o1 : Option V) (rs : List (List Int)), σ = [some (.ref a), some (.ref pd), some (.ref pr), o1] ∧ Same H0 H' ∧ LLs H0 H' pr rs ∧ rs.length = 4 ∧ rs.flatten.length ≤ i) ⟨_, _, rfl, sK, L0, rfl, Nat.le_refl _⟩ ?_ ?_⟩
  · rintro i σ H2 hi ⟨o1, rs, rfl, s2, l2, ln, fl⟩
    obtain ⟨ys, ey, ly⟩ := l2.len
    have atk := atI_int (ns := xs) (i := (0 : Int) + (i : Int)) (by omega) (by omega)
    generalize xs.getD ((0 : Int) + (i : Int)).toNat 0 = dk at atk
    have m0 := Int.emod_nonneg dk (show 2 + d9 % 3 ≠ 0 by omega)
    have m1 := Int.emod_lt_of_pos dk (show 0 < 2 + d9 % 3 by omega)
    refine ⟨_, rfl, _, rfl, _, rfl, pd, _, _, _, rfl, rfl, SqL.of (s2 _ _ hd), atk, _, rfl, pd, _, _, _, rfl, rfl, SqL.of (s2 _ _ hd), at9, _, _, rfl, rfl, pm (by decide), _, _, rfl, rfl, _, _, rfl, rfl, by omega, ?_⟩
    try dsimp only
    generalize dk % (2 + d9 % 3) = z at m0 m1 ⊢
    obtain ⟨j, rfl⟩ : ∃ j : Nat, z = (j : Int) := ⟨z.toNat, by omega⟩
    have hj := List.getElem?_eq_getElem (show j < rs.length by omega)
    obtain ⟨c, xc, hc, h0c, nc⟩ := l2.get ey hj
    generalize rs[j] = r at hj hc
    have lr : r.length ≤ 8 := Nat.le_trans (len_one rs r (List.mem_of_getElem? hj)) (by omega)
    refine ⟨pr, _, _, _, rfl, rfl, SqL.of ey, atI_nat xc, .inl ⟨rfl, _, SqL.of hc⟩, _, rfl, c, _, _, rfl, rfl, hc, by rw [List.length_map]; exact sz' (by omega), ?_⟩
    have em : r.map V.int ++ [V.int ((0 : Int) + (i : Int))] = (r ++ [(0 : Int) + (i : Int)]).map V.int := by rw [List.map_append]; rfl
    rw [em]
    have fl3 := flat_set_len (ms := r ++ [(0 : Int) + (i : Int)]) hj
    rw [List.length_append] at fl3
    have fl3 : (rs.set j (r ++ [(0 : Int) + (i : Int)])).flatten.length + r.length = rs.flatten.length + (r.length + 1) := fl3
    exact ⟨_, _, rfl, s2.upd h0c _, l2.put ey xc _, by rw [List.length_set]; exact ln, by omega⟩
  · rintro σ H5 ⟨o1, rs5, rfl, s5, l5, ln5, fl5⟩
    obtain ⟨bs, el5, ro5, nd5⟩ := l5
    have lbs : bs.length = rs5.length := Paired.length ro5
    refine ⟨_, rfl, pr, rfl, ⟨_, SqL.of el5⟩, fun D hD => comp_walk (xs := bs.map V.ref) (fun k zs H' => ∃ cs : List Addr, Same H5 H' ∧ H' D = some (.lst zs) ∧ zs = cs.map V.ref ∧ RoomsAt H0 H' D cs ((rs5.take k).filter fun r => decide (r ≠ [])) ∧ cs.Sublist (bs.take k) ∧ k ≤ rs5.length) (sz (by rw [List.length_map]; omega)) ⟨[], Same.new (Same.refl H5) hD _, upd_same, rfl, .nil, List.Sublist.refl _, Nat.zero_le _⟩ (fun k zs H' hk h => ?_) (fun k v zs H' R R0 hx h r r0 => ?_) (fun zs H' h => ?_)⟩
    · obtain ⟨cs, sm, hy, rfl, ro, su, hk'⟩ := h
      refine ⟨SqL.of (sm _ _ el5), ?_⟩
      rw [List.length_map]
      have := su.length_le
      rw [List.length_take] at this
      omega
    · obtain ⟨cs, sm, hy, rfl, ro, su, hk'⟩ := h
      have hlt : k < bs.length := by
        have := (List.getElem?_eq_some_iff.mp hx).1
        rw [List.length_map] at this
        exact this
      have hr5 := List.getElem?_eq_getElem (show k < rs5.length by omega)
      obtain ⟨b5, gb5, hb5, h05, _⟩ := ro5.get hr5
      generalize rs5[k] = r5 at hr5 hb5
      have ev : v = .ref b5 := by
        rw [List.getElem?_map, gb5] at hx
        injection hx with hx
        exact hx.symm
      subst ev
      have hb6 := sm _ _ hb5
      have nbD : b5 ≠ D := ne_of_none hb5 hD
      have et : rs5.take (k + 1) = rs5.take k ++ [r5] := by rw [List.take_add_one, hr5]; rfl
      have eb : bs.take (k + 1) = bs.take k ++ [b5] := by rw [List.take_add_one, gb5]; rfl
      refine ⟨Ext.set rfl, ⟨_, rfl, b5, _, rfl, .inl (SqL.of hb6), _, _, rfl, rfl, _, rfl, ?_⟩⟩
      by_cases c : (((r5.map V.int).length : Nat) : Int) > 0
      · have ne5 : r5 ≠ [] := fun z => by subst z; simp at c
        refine iteP c ⟨_, rfl, r _ _ hy ⟨cs ++ [b5], sm.upd hD _, upd_same, by rw [List.map_append]; rfl, ?_, by rw [eb]; exact su.append (List.Sublist.refl _), by omega⟩⟩
        rw [et, List.filter_append, List.filter_cons, if_pos (decide_eq_true ne5), List.filter_nil]
        exact RoomsAt.self (RoomsAt.snoc hb6 h05 nbD ro)
      · have ne5 : r5 = [] := by
          cases r5 with
          | nil => rfl
          | cons x y => simp at c
        refine iteN c (r0 _ ⟨cs, sm, hy, rfl, ?_, by rw [eb]; exact su.trans (List.sublist_append_left _ _), by omega⟩)
        rw [et, List.filter_append, List.filter_cons, if_neg (by simp [ne5]), List.filter_nil, List.append_nil]
        exact ro
    · obtain ⟨cs, sm, hy, rfl, ro, su, hk'⟩ := h
      rw [List.length_map, List.take_of_length_le (by omega)] at ro su
      have lf : LLs H0 H' D (rs5.filter fun r => decide (r ≠ [])) := ⟨cs, hy, ro, nd5.sublist su⟩
      have lfl := flat_filter_len (fun r => decide (r ≠ [])) rs5
      have lft : (rs5.filter fun r => decide (r ≠ [])).length ≤ rs5.length := List.length_filter_le _ _
      refine ⟨D, H0, _, rfl, lf, by omega, fun pq ss H6 s6 f6 l6 hp6 _ _ => ?_⟩
      have e6 := flat_perm_len hp6
      have e7 := hp6.length_eq
      exact q pq ss H6 (sm0.trans (s5.trans (sm.trans s6))) (sm0.free ((s5.trans sm).free f6)) (l6.since sm0) (by omega) (by omega)
theorem ok__law_homes {er : Er1} (EO : Er1Ok K mg er) {ca : ClA} (CA : ClOk K mg ca) {f : Addr} {fd : FuncData} (F : Fun K "_law_homes" "_law_homes" s__law_homes f fd) (m_range : mg "range" = none) (m_len : mg "len" = none) : FnOk P w K mg base CX0 1 f fd ["_law_rooms_here"] (sp__law_homes K ca) := by
  refine F.ok sc__law_homes (fun vs H Q E h => ?_) (fun cdv A outer s H vs Q E hr h => ?_)
  · obtain ⟨l, H0, rs, rfl, hl, hz, hz2, q⟩ := h
    rfl
  obtain ⟨l, H0, rs, rfl, hl, hz, hz2, q⟩ := h
  refine ⟨_, pss_cons (ps_set (i := 1) sc__law_homes.nd rfl (Or.inl rfl) pe_dnewK)
    (pss_cons (ps_for PassesOwn.never rfl (pi_range1 rfl m_range (pa_cons (pe_callB call_len_seq rfl m_len bb_len (pa_cons (pv 0) pa_nil)) pa_nil)) (pg_name (i := 2) sc__law_homes.nd rfl (Or.inl rfl)) (pss_cons (ps_if (PW.pt (pw_or (pt_cmpR op_eq (pe_callB call_len_seq rfl m_len bb_len (pa_cons (pe_ix ix_list (pv 0) (pv 2) (fun _ _ => rfl)) pa_nil)) pe_int (nomark _)) (pw_or1 (PW.pt (pw_and (pt_cmpR op_gt (pv 2) pe_int (nomark _)) (pw_and1 (pt_cmpR op_le (pe_ix ix_list (pe_ix ix_list (pv 0) (pv 2) (fun _ _ => rfl)) pe_int (fun _ _ => rfl)) (pe_ix ix_list (pe_ix ix_list (pv 0) (pe_op op_sub (pv 2) pe_int) (fun _ _ => rfl)) pe_int (fun _ _ => rfl)) (nomark _)))))))) (pss_one (ps_ret pe_non)) pss_nil)
    (pss_one (ps_for PassesOwn.never rfl (pi_range1 rfl m_range (pa_cons (pe_callB call_len_seq rfl m_len bb_len (pa_cons (pe_ix ix_list (pv 0) (pv 2) (fun _ _ => rfl)) pa_nil)) pa_nil)) (pg_name (i := 3) sc__law_homes.nd rfl (Or.inl rfl)) (pss_cons (ps_if (PW.pt (pw_or (PW.pt (pw_and (pt_cmpR op_gt (pv 3) pe_int (nomark _)) (pw_and1 (pt_cmpR op_le (pe_ix ix_list (pe_ix ix_list (pv 0) (pv 2) (fun _ _ => rfl)) (pv 3) (fun _ _ => rfl)) (pe_ix ix_list (pe_ix ix_list (pv 0) (pv 2) (fun _ _ => rfl)) (pe_op op_sub (pv 3) pe_int) (fun _ _ => rfl)) (nomark _))))) (pw_or1 (pt_cmp (pc_din (hu1 hr) (pe_ix ix_list (pe_ix ix_list (pv 0) (pv 2) (fun _ _ => rfl)) (pv 3) (fun _ _ => rfl)) (pv 1)) (by rfl))))) (pss_one (ps_ret pe_non)) pss_nil)
    (pss_one (ps_dput (hu1 hr) (pv 1) (pe_ix ix_list (pe_ix ix_list (pv 0) (pv 2) (fun _ _ => rfl)) (pv 3) (fun _ _ => rfl)) (pv 2) rfl)))))))
    (pss_cons (ps_for PassesOwn.never rfl (pi_range1 rfl m_range (pa_cons (pe_callB len_dict rfl m_len bb_len (pa_cons (pv 1) pa_nil)) pa_nil)) (pg_name (i := 4) sc__law_homes.nd rfl (Or.inl rfl)) (pss_one (ps_if (pt_cmp (pc_dnotin (hu1 hr) (pv 4) (pv 1)) (by rfl)) (pss_one (ps_ret pe_non)) pss_nil)))
    (pss_one (ps_ret (pv 1))))), ?_⟩
  obtain ⟨xs, el, lxs⟩ := hl.len
  have lb : ∀ r ∈ rs, r.length ≤ 100 := fun r hr => Nat.le_trans (len_one rs r hr) hz2
  refine fun pd hpd => ?_
  have s1 := Same.new (Same.refl H) hpd (.dK [])
  have at_r : ∀ (j : Nat) (r : List Int), rs[j]? = some r → ∃ b, atI xs (j : Int) = some (.ref b) ∧ H b = some (.lst (r.map V.int)) := fun j r hj => by
    obtain ⟨b, h1, h2, _⟩ := hl.get el hj
    exact ⟨b, atI_nat h1, h2⟩
  refine ⟨_, rfl, l, _, rfl, .inl (SqL.of (s1 _ _ el)), _, rfl, by omega, by omega, for_range (lo := 0) (n := ((xs.length : Nat) : Int).toNat) (fun i σ H' => ∃ (o1 o2 o3 : Option V) (kvs : List (Key × V)), σ = [some (.ref l), some (.ref pd), o1, o2, o3] ∧ Same H H' ∧ H' pd = some (.dK kvs) ∧ Hm rs (rs.take i).flatten kvs ∧ (∀ j, j < i → ∀ r, rs[j]? = some r → r ≠ [] ∧ r.Pairwise (· < ·)) ∧ ∀ j, j + 1 < i → hd (rs.getD j []) < hd (rs.getD (j + 1) [])) ⟨_, _, _, [], rfl, s1, upd_same, Hm.nil rs, fun j hj => absurd hj (Nat.not_lt_zero _), fun j hj => absurd hj (Nat.not_lt_zero _)⟩ ?_ ?_⟩
  · rintro i σ H2 hi ⟨o1, o2, o3, kvs, rfl, sm, hd2, hm, good, ups⟩
    have hi' : i < rs.length := by omega
    have hr := List.getElem?_eq_getElem hi'
    obtain ⟨b, ab, hb⟩ := at_r i _ hr
    have er : rs.getD i [] = rs[i] := by rw [List.getD_eq_getElem?_getD, hr]; rfl
    generalize hrr : rs[i] = r at hr hb er
    have lr := lb r (List.mem_of_getElem? hr)
    have lrm : (r.map V.int).length = r.length := List.length_map _
    have ab' : atI xs ((0 : Int) + (i : Int)) = some (.ref b) := by rw [show (0 : Int) + (i : Int) = (i : Int) by omega]; exact ab
    refine ⟨_, rfl, _, rfl, l, _, _, _, rfl, rfl, SqL.of (sm _ _ el), ab', b, _, rfl, .inl (SqL.of (sm _ _ hb)), rfl, _, rfl, ?_⟩
    by_cases c0 : r = []
    · refine iteP (by rw [c0]; rfl) (iteT ?_)
      exact (q H2 sm).1 (isR_void ⟨r, List.mem_of_getElem? hr, c0⟩)
    have hlen : 0 < r.length := List.length_pos_iff.mpr c0
    refine iteN (fun z => c0 (List.eq_nil_of_length_eq_zero (by injection z with z; omega))) ⟨_, rfl, _, _, rfl, rfl, _, rfl, ?_⟩
    by_cases c1 : (0 : Int) + (i : Int) > 0
    case' pos =>
      obtain ⟨j, rfl⟩ : ∃ j, i = j + 1 := ⟨i - 1, by omega⟩
      have hr2 := List.getElem?_eq_getElem (show j < rs.length by omega)
      obtain ⟨b2, ab2, hb2⟩ := at_r j _ hr2
      have er2 : rs.getD j [] = rs[j] := by rw [List.getD_eq_getElem?_getD, hr2]; rfl
      have ne2 := (good j (by omega) _ hr2).1
      generalize rs[j] = r2 at hr2 hb2 er2 ne2
      have ab2' : atI xs ((0 : Int) + ((j + 1 : Nat) : Int) - 1) = some (.ref b2) := by rw [show (0 : Int) + ((j + 1 : Nat) : Int) - 1 = (j : Int) by omega]; exact ab2
      refine iteP c1 ⟨_, rfl, _, rfl, l, _, _, _, rfl, rfl, SqL.of (sm _ _ el), ab', b, _, _, _, rfl, rfl, SqL.of (sm _ _ hb), atI_hd c0, _, rfl, _, rfl, _, _, rfl, rfl, l, _, _, _, rfl, rfl, SqL.of (sm _ _ el), ab2', b2, _, _, _, rfl, rfl, SqL.of (sm _ _ hb2), atI_hd ne2, _, _, rfl, rfl, _, rfl, ?_⟩
      by_cases c2 : hd r ≤ hd r2
      · refine iteP c2 ((q H2 sm).1 (isR_ris fun h => ?_))
        have := lt_adj h.2 (a := j) (by rw [List.length_map]; exact hi')
        rw [heads_get, heads_get, er2, er] at this
        omega
      have ups' : ∀ j', j' + 1 < j + 1 + 1 → hd (rs.getD j' []) < hd (rs.getD (j' + 1) []) := fun j' hj' => by
        by_cases e : j' = j
        · subst e
          rw [er2, er]
          omega
        · exact ups j' (by omega)
      refine iteN c2 ?_
      generalize j + 1 = i at *
    case' neg =>
      have ups' : ∀ j', j' + 1 < i + 1 → hd (rs.getD j' []) < hd (rs.getD (j' + 1) []) := fun j' hj' => by omega
      refine iteN c1 (iteF ?_)
    all_goals
      refine ⟨_, rfl, _, rfl, l, _, _, _, rfl, rfl, SqL.of (sm _ _ el), ab', b, _, rfl, .inl (SqL.of (sm _ _ hb)), _, rfl, by omega, by omega, for_range (lo := 0) (n := (((r.map V.int).length : Nat) : Int).toNat) (fun a σ H' => ∃ (o2 o3 : Option V) (kvs : List (Key × V)), σ = [some (.ref l), some (.ref pd), some (.int ((0 : Int) + (i : Int))), o2, o3] ∧ Same H H' ∧ H' pd = some (.dK kvs) ∧ Hm rs ((rs.take i).flatten ++ r.take a) kvs ∧ ∀ j, j + 1 < a → r.getD j 0 < r.getD (j + 1) 0) ⟨_, _, kvs, rfl, sm, hd2, by rw [List.take_zero, List.append_nil]; exact hm, fun j hj => absurd hj (Nat.not_lt_zero _)⟩ ?_ ?_⟩
      · rintro a σ H3 ha ⟨p2, p3, kvs3, rfl, sm3, hd3, hm3, up3⟩
        have ha' : a < r.length := by omega
        have at1 := atI_int (ns := r) (i := (0 : Int) + (a : Int)) (by omega) (by omega)
        rw [show ((0 : Int) + (a : Int)).toNat = a by omega] at at1
        have mr := List.mem_of_getElem? hr
        refine ⟨_, rfl, _, _, rfl, rfl, _, rfl, ?_⟩
        by_cases d1 : (0 : Int) + (a : Int) > 0
        case' pos =>
          obtain ⟨a', rfl⟩ : ∃ a', a = a' + 1 := ⟨a - 1, by omega⟩
          have at0 := atI_int (ns := r) (i := (0 : Int) + ((a' + 1 : Nat) : Int) - 1) (by omega) (by omega)
          rw [show ((0 : Int) + ((a' + 1 : Nat) : Int) - 1).toNat = a' by omega] at at0
          refine iteP d1 ⟨_, rfl, _, rfl, l, _, _, _, rfl, rfl, SqL.of (sm3 _ _ el), ab', _, rfl, b, _, _, _, rfl, rfl, SqL.of (sm3 _ _ hb), at1, _, rfl, _, rfl, l, _, _, _, rfl, rfl, SqL.of (sm3 _ _ el), ab', _, rfl, _, _, rfl, rfl, b, _, _, _, rfl, rfl, SqL.of (sm3 _ _ hb), at0, _, _, rfl, rfl, _, rfl, ?_⟩
          by_cases d2 : r.getD (a' + 1) 0 ≤ r.getD a' 0
          · refine iteP d2 (iteT ((q H3 sm3).1 (isR_ris fun h => ?_)))
            have := lt_adj (h.1 r mr) (a := a') ha'
            omega
          have up4 : ∀ j, j + 1 < a' + 1 + 1 → r.getD j 0 < r.getD (j + 1) 0 := fun j hj => by
            by_cases e : j = a'
            · subst e; omega
            · exact up3 j (by omega)
          refine iteN d2 ?_
          generalize a' + 1 = a at *
        case' neg =>
          have up4 : ∀ j, j + 1 < a + 1 → r.getD j 0 < r.getD (j + 1) 0 := fun j hj => by omega
          refine iteN d1 (iteF ?_)
        all_goals
          refine ⟨_, rfl, _, rfl, l, _, _, _, rfl, rfl, SqL.of (sm3 _ _ el), ab', _, rfl, b, _, _, _, rfl, rfl, SqL.of (sm3 _ _ hb), at1, _, rfl, pd, _, rfl, DGet.k (k := .inl (r.getD a 0)) hd3, _, rfl, ?_⟩
          rw [hm3.dup]
          by_cases d3 : r.getD a 0 ∈ (rs.take i).flatten ++ r.take a
          · rw [decide_eq_true d3]
            refine iteT ((q H3 sm3).1 (isR_twice fun nd => ?_))
            obtain ⟨z, ez⟩ := flat_pre hr (show a + 1 ≤ r.length by omega)
            rw [ez, take_get ha', ← List.append_assoc, List.append_assoc, List.nodup_append] at nd
            exact nd.2.2 _ d3 _ (by simp) rfl
          · rw [decide_eq_false d3]
            have lk := hm3.len
            have lf : ((rs.take i).flatten ++ r.take a).length ≤ 100 := by
              obtain ⟨z, ez⟩ := flat_pre hr (show a ≤ r.length by omega)
              rw [ez, List.length_append] at hz2
              omega
            refine iteF ⟨_, rfl, _, rfl, _, rfl, _, rfl, l, _, _, _, rfl, rfl, SqL.of (sm3 _ _ el), ab', _, rfl, b, _, _, _, rfl, rfl, SqL.of (sm3 _ _ hb), at1, pd, _, rfl, .inl ⟨kvs3, .inl (r.getD a 0), hd3, rfl, sz' (by omega), rfl⟩, ?_⟩
            have mem_r : r.getD a 0 ∈ r := by rw [List.getD_eq_getElem?_getD, List.getElem?_eq_getElem ha']; exact List.getElem_mem _
            have hm4 := hm3.put d3 hr mem_r
            rw [List.append_assoc, ← take_get ha'] at hm4
            refine ⟨_, _, _, rfl, sm3.upd hpd _, upd_same, ?_, up4⟩
            rw [show (0 : Int) + (i : Int) = (i : Int) by omega]
            exact hm4
      · rintro σ H3 ⟨p2, p3, kvs3, rfl, sm3, hd3, hm3, up3⟩
        rw [show (((r.map V.int).length : Nat) : Int).toNat = r.length by omega] at hm3 up3
        rw [List.take_length, ← flat_take hr] at hm3
        refine ⟨_, _, _, kvs3, rfl, sm3, hd3, hm3, fun j hj r' hr' => ?_, ups'⟩
        by_cases e : j = i
        · subst e
          rw [hr] at hr'
          injection hr' with hr'
          subst hr'
          exact ⟨c0, adj_lt up3⟩
        · exact good j (by omega) r' hr'
  · rintro σ H2 ⟨o1, o2, o3, kvs, rfl, sm, hd2, hm, good, ups⟩
    rw [show ((xs.length : Nat) : Int).toNat = rs.length by omega] at hm good ups
    rw [List.take_length] at hm
    have hne : ∀ r ∈ rs, r ≠ [] := fun r hr => by
      obtain ⟨j, hj, e⟩ := List.getElem_of_mem hr
      exact (good j hj r (by rw [List.getElem?_eq_getElem hj, e])).1
    have inc : ∀ r ∈ rs, r.Pairwise (· < ·) := fun r hr => by
      obtain ⟨j, hj, e⟩ := List.getElem_of_mem hr
      exact (good j hj r (by rw [List.getElem?_eq_getElem hj, e])).2
    have heads : (rs.map hd).Pairwise (· < ·) := adj_lt fun a ha => by
      rw [List.length_map] at ha
      rw [heads_get, heads_get]
      exact ups a ha
    have lk := hm.len
    refine ⟨_, rfl, pd, kvs, rfl, hd2, _, rfl, by omega, by omega, for_range (lo := 0) (n := ((kvs.length : Nat) : Int).toNat) (fun i σ H' => ∃ (o1 o2 o3 : Option V), σ = [some (.ref l), some (.ref pd), o1, o2, o3] ∧ H2 = H' ∧ ∀ k, k < i → (k : Int) ∈ rs.flatten) ⟨_, _, _, rfl, rfl, fun k hk => absurd hk (Nat.not_lt_zero _)⟩ ?_ ?_⟩
    · rintro i σ H3 hi ⟨o1, o2, o3, rfl, rfl, al⟩
      refine ⟨_, rfl, _, rfl, pd, _, rfl, DGet.k (k := .inl ((0 : Int) + (i : Int))) hd2, _, rfl, ?_⟩
      rw [hm.dup, show (0 : Int) + (i : Int) = (i : Int) by omega]
      by_cases c : (i : Int) ∈ rs.flatten
      · rw [decide_eq_true c]
        refine iteF ⟨_, _, _, rfl, rfl, fun k hk => ?_⟩
        by_cases e : k = i
        · rw [e]; exact c
        · exact al k (by omega)
      · rw [decide_eq_false c]
        exact iteT ((q H2 sm).1 (isR_gone (by omega) c))
    · rintro σ H3 ⟨o1, o2, o3, rfl, rfl, al⟩
      exact ⟨_, rfl, (q H2 sm).2 pd kvs hpd hd2 hne inc heads (each_all fun k hk => al k (by omega)) hm.has⟩
theorem ok__law_stand {er : Er1} (EO : Er1Ok K mg er) {ca : ClA} (CA : ClOk K mg ca) {f : Addr} {fd : FuncData} (F : Fun K "_law_stand" "_law_stand" s__law_stand f fd) {f0 : Addr} {fd0 : FuncData} (d__law_homes : Def P w K mg base "_law_homes" ["_law_rooms_here"] 1 (sp__law_homes K ca) f0 fd0) (m_range : mg "range" = none) (m_len : mg "len" = none) : FnOk P w K mg base CX0 2 f fd ["_law_rooms_here"] (sp__law_stand K ca) := by
  refine F.ok sc__law_stand (fun vs H Q E h => ?_) (fun cdv A outer s H vs Q E hr h => ?_)
  · obtain ⟨l, H0, rs, rfl, hl, hz, hz2, q⟩ := h
    rfl
  obtain ⟨l, H0, rs, rfl, hl, hz, hz2, q⟩ := h
  refine ⟨_, pss_cons (ps_set (i := 1) sc__law_stand.nd rfl (Or.inl rfl) (pcall d__law_homes hr (pa_cons (pv 0) pa_nil)))
    (pss_cons (ps_if (pt_cmpR op_isN (pv 1) pe_non (nomark _)) (pss_one (ps_ret pe_bl)) pss_nil)
    (pss_cons (ps_for PassesOwn.never rfl (pi_list (pv 0)) (pg_name (i := 2) sc__law_stand.nd rfl (Or.inl rfl)) (pss_one (ps_for PassesOwn.never rfl (pi_range2 rfl m_range (pa_cons pe_int (pa_cons (pe_callB call_len_seq rfl m_len bb_len (pa_cons (pv 2) pa_nil)) pa_nil))) (pg_name (i := 3) sc__law_stand.nd rfl (Or.inl rfl)) (pss_one (ps_for PassesOwn.never rfl (pi_range2 rfl m_range (pa_cons (pe_op op_add (pe_ix ix_list (pv 2) (pe_op op_sub (pv 3) pe_int) (fun _ _ => rfl)) pe_int) (pa_cons (pe_ix ix_list (pv 2) (pv 3) (fun _ _ => rfl)) pa_nil))) (pg_name (i := 4) sc__law_stand.nd rfl (Or.inl rfl)) (pss_cons (ps_set (i := 5) sc__law_stand.nd rfl (Or.inl rfl) (pe_ix ix_list (pv 0) (pe_dget (hu1 hr) (pv 1) (pv 4) (fun _ _ => rfl)) (fun _ _ => rfl)))
    (pss_one (ps_if (PW.pt (pw_or (pt_cmpR op_lt (pe_ix ix_list (pv 5) pe_int (fun _ _ => rfl)) (pe_ix ix_list (pv 2) (pe_op op_sub (pv 3) pe_int) (fun _ _ => rfl)) (nomark _)) (pw_or1 (pt_cmpR op_gt (pe_ix ix_list (pv 5) (pe_un un_neg pe_int) (fun _ _ => rfl)) (pe_ix ix_list (pv 2) (pv 3) (fun _ _ => rfl)) (nomark _))))) (pss_one (ps_ret pe_bl)) pss_nil))))))))
    (pss_one (ps_ret pe_bl)))), ?_⟩
  obtain ⟨xs, el, lxs⟩ := hl.len
  refine ⟨_, rfl, l, H0, rs, rfl, hl, hz, hz2, fun H1 s1 => ⟨fun hB => ?_, fun pd kvs fp hp hne inc heads hE homes => ?_⟩⟩
  · refine ⟨_, rfl, rfl, _, rfl, iteP rfl ?_⟩
    have := q H1 s1
    rw [hB] at this
    exact this
  refine ⟨_, rfl, rfl, _, rfl, iteN (fun z => by cases z) ?_⟩
  have nd := flat_nodup hE
  have rest := isR_rest hne hE
  have hR : risR rs = true := decide_eq_true ⟨inc, heads⟩
  rw [hR, Bool.true_and] at rest
  have q1 := q H1 s1
  rw [rest] at q1
  have el1 := s1 _ _ el
  have hl1 := hl.same s1
  have rng : ∀ m ∈ rs.flatten, 0 ≤ m ∧ m < 100 := fun m hm => by
    have := mem_rgI.mp (((eachB_iff _).mp hE).mem_iff.mp hm)
    omega
  have inF : ∀ (r : List Int), r ∈ rs → ∀ k, k < r.length → r.getD k 0 ∈ rs.flatten := fun r hr k hk => List.mem_flatten.mpr ⟨r, hr, by rw [List.getD_eq_getElem?_getD, List.getElem?_eq_getElem hk]; exact List.getElem_mem _⟩
  have lb : ∀ r ∈ rs, r.length ≤ 100 := fun r hr => Nat.le_trans (len_one rs r hr) hz2
  refine ⟨_, rfl, l, rfl, ⟨_, SqL.of el1⟩, for_list (xs := xs) (fun i σ H' => ∃ (o1 o2 o3 o4 : Option V), σ = [some (.ref l), some (.ref pd), o1, o2, o3, o4] ∧ H1 = H' ∧ ∀ (i' j k : Nat) (r R : List Int) (m : Int), i' < i → rs[i']? = some r → rs[j]? = some R → k + 1 < r.length → r.getD k 0 < m → m < r.getD (k + 1) 0 → m ∈ R → ¬ r.getD (k + 1) 0 < lst R) ⟨_, _, _, _, rfl, rfl, fun i' j k r R m h => absurd h (Nat.not_lt_zero _)⟩ (fun i σ H' _ h => by obtain ⟨_, _, _, _, _, rfl, _⟩ := h; exact SqL.of el1) ?_ ?_⟩
  · rintro i v σ H2 hv ⟨o1, o2, o3, o4, rfl, rfl, al⟩
    obtain ⟨b, r, rfl, hr, hb, _⟩ := hl1.at el1 hv
    have mr := List.mem_of_getElem? hr
    have lr := lb r mr
    have lrm : (r.map V.int).length = r.length := List.length_map _
    refine ⟨_, rfl, b, _, rfl, .inl (SqL.of hb), _, _, rfl, ⟨by decide, by decide, by omega, by omega⟩, for_range (lo := 1) (n := ((((r.map V.int).length : Nat) : Int) - 1).toNat) (fun i2 σ H' => ∃ (o2 o3 o4 : Option V), σ = [some (.ref l), some (.ref pd), some (.ref b), o2, o3, o4] ∧ H1 = H' ∧ ∀ (j k : Nat) (R : List Int) (m : Int), k < i2 → rs[j]? = some R → k + 1 < r.length → r.getD k 0 < m → m < r.getD (k + 1) 0 → m ∈ R → ¬ r.getD (k + 1) 0 < lst R) ⟨_, _, _, rfl, rfl, fun j k R m h => absurd h (Nat.not_lt_zero _)⟩ ?_ ?_⟩
    · rintro k σ H3 hk ⟨o2, o3, o4, rfl, rfl, al2⟩
      have hk1 : k + 1 < r.length := by omega
      have a1 := atI_int (ns := r) (i := (1 : Int) + (k : Int) - 1) (by omega) (by omega)
      have a2 := atI_int (ns := r) (i := (1 : Int) + (k : Int)) (by omega) (by omega)
      rw [show ((1 : Int) + (k : Int) - 1).toNat = k by omega] at a1
      rw [show ((1 : Int) + (k : Int)).toNat = k + 1 by omega] at a2
      have g1 := rng _ (inF r mr k (by omega))
      have g2 := rng _ (inF r mr (k + 1) hk1)
      refine ⟨_, rfl, _, rfl, _, _, rfl, rfl, b, _, _, _, rfl, rfl, SqL.of hb, a1, _, _, rfl, rfl, _, rfl, _, rfl, b, _, _, _, rfl, rfl, SqL.of hb, a2, _, _, rfl, ⟨by omega, by omega, by omega, by omega⟩, for_range (lo := r.getD k 0 + 1) (n := (r.getD (k + 1) 0 - (r.getD k 0 + 1)).toNat) (fun i3 σ H' => ∃ (o3 o4 : Option V), σ = [some (.ref l), some (.ref pd), some (.ref b), some (.int ((1 : Int) + (k : Int))), o3, o4] ∧ H1 = H' ∧ ∀ (j : Nat) (R : List Int) (m : Int), rs[j]? = some R → r.getD k 0 < m → m < r.getD k 0 + 1 + (i3 : Int) → m ∈ R → ¬ r.getD (k + 1) 0 < lst R) ⟨_, _, rfl, rfl, fun j R m _ h1 h2 => by omega⟩ ?_ ?_⟩
      · rintro i3 σ H4 hi3 ⟨o3, o4, rfl, rfl, al3⟩
        have mlt : r.getD k 0 + 1 + (i3 : Int) < r.getD (k + 1) 0 := by omega
        have min_ : (r.getD k 0 + 1 + (i3 : Int)) ∈ rs.flatten := ((eachB_iff _).mp hE).mem_iff.mpr (mem_rgI.mpr ⟨by omega, by
          have := mem_rgI.mp (((eachB_iff _).mp hE).mem_iff.mp (inF r mr (k + 1) hk1))
          omega⟩)
        obtain ⟨j, R, v1, v2, v3⟩ := homes _ min_
        obtain ⟨c, x1, x2, _⟩ := hl1.get el1 v2
        have neR := hne R (List.mem_of_getElem? v2)
        have dg : DGet H1 pd (.int (r.getD k 0 + 1 + (i3 : Int))) (some (.int (j : Int))) := v1 ▸ DGet.k (k := .inl (r.getD k 0 + 1 + (i3 : Int))) hp
        refine ⟨_, rfl, _, rfl, _, rfl, pd, _, rfl, dg, l, _, _, _, rfl, rfl, SqL.of el1, atI_nat x1, ?_⟩
        have one : ∀ (j' : Nat) (R' : List Int), rs[j']? = some R' → r.getD k 0 + 1 + (i3 : Int) ∈ R' → R' = R := fun j' R' h1 h2 => by
          have := one_room nd h1 v2 h2 v3
          subst this
          rw [v2] at h1
          injection h1 with h1
          exact h1.symm
        refine ⟨_, rfl, c, _, _, _, rfl, rfl, SqL.of x2, atI_hd neR, _, rfl, _, rfl, _, _, rfl, rfl, b, _, _, _, rfl, rfl, SqL.of hb, a1, _, _, rfl, rfl, _, rfl, ?_⟩
        by_cases c1 : hd R < r.getD k 0
        · refine iteP c1 (iteT ?_)
          rw [out_cross inc hne nd hr v2 hk1 (by omega) mlt v3 (.inl c1)] at q1
          exact q1
        · refine iteN c1 ⟨_, rfl, _, rfl, c, _, _, _, rfl, rfl, SqL.of x2, atI_lastD neR, _, rfl, _, rfl, b, _, _, _, rfl, rfl, SqL.of hb, a2, _, _, rfl, rfl, _, rfl, ?_⟩
          by_cases c2 : lst R > r.getD (k + 1) 0
          · refine iteP c2 ?_
            rw [out_cross inc hne nd hr v2 hk1 (by omega) mlt v3 (.inr c2)] at q1
            exact q1
          · refine iteN c2 ⟨_, _, rfl, rfl, fun j' R' m hj' m1 m2 m3 => ?_⟩
            by_cases em : m = r.getD k 0 + 1 + (i3 : Int)
            · subst em
              rw [one j' R' hj' m3]
              exact c2
            · exact al3 j' R' m hj' m1 (by omega) m3
      · rintro σ H4 ⟨o3, o4, rfl, rfl, al3⟩
        refine ⟨_, _, _, rfl, rfl, fun j k' R m hk' hj hk2 m1 m2 m3 => ?_⟩
        by_cases e : k' = k
        · subst e
          exact al3 j R m hj m1 (by omega) m3
        · exact al2 j k' R m (by omega) hj hk2 m1 m2 m3
    · rintro σ H3 ⟨o2, o3, o4, rfl, rfl, al2⟩
      refine ⟨_, _, _, _, rfl, rfl, fun i' j k r' R m hi' hr' hj hk m1 m2 m3 => ?_⟩
      by_cases e : i' = i
      · subst e
        rw [hr] at hr'
        injection hr' with hr'
        subst hr'
        exact al2 j k R m (by omega) hj hk m1 m2 m3
      · exact al i' j k r' R m (by omega) hr' hj hk m1 m2 m3
  · rintro σ H2 ⟨o1, o2, o3, o4, rfl, rfl, al⟩
    rw [no_cross inc fun i j k r R m hi hj hk m1 m2 m3 => al i j k r R m (by rw [lxs]; exact (List.getElem?_eq_some_iff.mp hi).1) hi hj hk m1 m2 m3] at q1
    exact q1
theorem ok_Rooms__Family___init__ {er : Er1} (EO : Er1Ok K mg er) {ca : ClA} (CA : ClOk K mg ca) {fd : FuncData} (F : Fun K "__init__" "Family.__init__" s_Rooms__Family___init__ ca.f_Rooms__Family___init__ fd) : FnOk P w K mg base CX0 1 ca.f_Rooms__Family___init__ fd ["self", "word", "least"] (sp_Rooms__Family___init__ K ca) := by
  refine F.ok sc_Rooms__Family___init__ (fun vs H Q E h => ?_) (fun cdv A outer s H vs Q E hr h => ?_)
  · obtain ⟨x, dx, w, l, rfl, hx, q⟩ := h
    rfl
  obtain ⟨x, dx, w, l, rfl, hx, q⟩ := h
  refine ⟨_, pss_cons (ps_fld (pv 0) (pv 1) rfl)
    (pss_one (ps_fld (pv 0) (pv 2) rfl)), ?_⟩
  refine ⟨_, rfl, _, rfl, x, ca.C_Rooms, dx, _, rfl, hx, CA.c_Rooms, CA.na_Rooms_word, (by show 0 < 1000; decide), ?_⟩
  refine ⟨_, rfl, _, rfl, x, ca.C_Rooms, dx, _, rfl, upd_same, CA.c_Rooms, CA.na_Rooms_least, (by show 1 < 1000; decide), ?_⟩
  exact q _ _ upd_upd (flds_mk w l)
theorem ok_Rooms__SplitFamily___init__ {er : Er1} (EO : Er1Ok K mg er) {ca : ClA} (CA : ClOk K mg ca) {fd : FuncData} (F : Fun K "__init__" "SplitFamily.__init__" s_Rooms__SplitFamily___init__ ca.f_Rooms__SplitFamily___init__ fd) {fd0 : FuncData} (d_Rooms__Family___init__ : MDef P w K mg base ["self", "word", "least"] 1 (sp_Rooms__Family___init__ K ca) ca.f_Rooms__Family___init__ fd0) : FnOk P w K mg base CX0 3 ca.f_Rooms__SplitFamily___init__ fd ["self", "word"] (sp_Rooms__SplitFamily___init__ K ca) := by
  refine F.ok sc_Rooms__SplitFamily___init__ (fun vs H Q E h => ?_) (fun cdv A outer s H vs Q E hr h => ?_)
  · obtain ⟨x, dx, w, rfl, hx, q⟩ := h
    rfl
  obtain ⟨x, dx, w, rfl, hx, q⟩ := h
  refine ⟨_, pss_one (ps_expr (pcls CA.m_Family CA.cm_Family___init___Rooms d_Rooms__Family___init__ hr (pa_cons (pv 0) (pa_cons (pv 1) (pa_cons pe_int pa_nil))))), ?_⟩
  exact ⟨_, rfl, _, rfl, x, dx, w, 0, rfl, hx, fun fs H' e f => q fs H' e f⟩
theorem ok_Rooms____init__ {er : Er1} (EO : Er1Ok K mg er) {ca : ClA} (CA : ClOk K mg ca) {fd : FuncData} (F : Fun K "__init__" "Rooms.__init__" s_Rooms____init__ ca.f_Rooms____init__ fd) {fd0 : FuncData} (d_Rooms__SplitFamily___init__ : MDef P w K mg base ["self", "word"] 3 (sp_Rooms__SplitFamily___init__ K ca) ca.f_Rooms__SplitFamily___init__ fd0) : FnOk P w K mg base CX0 5 ca.f_Rooms____init__ fd ["self"] (sp_Rooms____init__ K ca) := by
  refine F.ok sc_Rooms____init__ (fun vs H Q E h => ?_) (fun cdv A outer s H vs Q E hr h => ?_)
  · obtain ⟨x, dx, rfl, hx, q⟩ := h
    rfl
  obtain ⟨x, dx, rfl, hx, q⟩ := h
  refine ⟨_, pss_one (ps_expr (pcls CA.m_SplitFamily CA.cm_SplitFamily___init___Rooms d_Rooms__SplitFamily___init__ hr (pa_cons (pv 0) (pa_cons pe_str pa_nil)))), ?_⟩
  exact ⟨_, rfl, x, dx, _, rfl, hx, fun fs H' e f => q fs H' e f⟩
theorem ok_each_once {er : Er1} (EO : Er1Ok K mg er) {ca : ClA} (CA : ClOk K mg ca) {f : Addr} {fd : FuncData} (F : Fun K "each_once" "each_once" s_each_once f fd) (m_sorted : mg "sorted" = none) (m_list : mg "list" = none) (m_range : mg "range" = none) (m_len : mg "len" = none) : FnOk P w K mg base CX0 1 f fd ["numbers"] (sp_each_once K ca) := by
  refine F.ok sc_each_once (fun vs H Q E h => ?_) (fun cdv A outer s H vs Q E hr h => ?_)
  · obtain ⟨l, ns, rfl, hl, h64, q⟩ := h
    rfl
  obtain ⟨l, ns, rfl, hl, h64, q⟩ := h
  refine ⟨_, pss_one (ps_ret (pe_cmpR (op_eq_list (hu0 hr)) (pe_callB call_sortedN rfl m_sorted bb_sorted (pa_cons (pv 0) pa_nil)) (pe_lr1 rfl rfl m_list rfl m_range (pa_cons (pe_callB call_len_seq rfl m_len bb_len (pa_cons (pv 0) pa_nil)) pa_nil)) (nomark _))), ?_⟩
  have lm : (ns.map V.int).length = ns.length := List.length_map _
  refine ⟨_, rfl, l, ns, rfl, SqL.of hl, h64, fun ps ms hps hp hs => ?_⟩
  have s1 := Same.new (Same.refl H) hps (.lst (ms.map V.int))
  have hm1 : upd H ps (.lst (ms.map V.int)) ps = some (.lst (ms.map V.int)) := upd_same
  generalize upd H ps (.lst (ms.map V.int)) = H1 at s1 hm1 ⊢
  refine ⟨_, rfl, l, _, rfl, .inl (SqL.of (s1 _ _ hl)), _, rfl, by omega, by omega, by omega, fun pr hpr => ?_⟩
  have s2 := Same.new (Same.refl H1) hpr (.lst (rngV 0 (((ns.map V.int).length : Nat) : Int).toNat))
  refine ⟨ps, pr, _, _, rfl, rfl, SqL.of (s2 _ _ hm1), SqL.of upd_same, flat_ints ms, ?_, ?_⟩
  · rw [rngV_zero]; exact flat_ints _
  have e : eqL (ms.map V.int) (rngV 0 (((ns.map V.int).length : Nat) : Int).toNat) = eachB ns := by
    rw [rngV_zero, eqL_ints, eachB_sorted hp hs, show (((ns.map V.int).length : Nat) : Int).toNat = ns.length by omega]
  have last : ∀ b : Bool, b = eachB ns → Q (.bl b) (upd H1 pr (.lst (rngV 0 (((ns.map V.int).length : Nat) : Int).toNat))) := fun b z => by rw [z]; exact q _ (s1.trans s2)
  exact last _ e
theorem ok_flat {er : Er1} (EO : Er1Ok K mg er) {ca : ClA} (CA : ClOk K mg ca) {f : Addr} {fd : FuncData} (F : Fun K "flat" "flat" s_flat f fd) : FnOk P w K mg base CX0 1 f fd ["rows"] (sp_flat K ca) := by
  refine F.ok sc_flat (fun vs H Q E h => ?_) (fun cdv A outer s H vs Q E hr h => ?_)
  · obtain ⟨l, bs, xss, rfl, hl, rw_, hz, q⟩ := h
    rfl
  obtain ⟨l, bs, xss, rfl, hl, rw_, hz, q⟩ := h
  refine ⟨_, pss_cons (ps_set (i := 1) sc_flat.nd rfl (Or.inl rfl) (pe_lst pa_nil))
    (pss_cons (ps_for PassesOwn.never rfl (pi_list (pv 0)) (pg_name (i := 2) sc_flat.nd rfl (Or.inl rfl)) (pss_one (ps_expr (pe_bm PySem.F.plainAttrs_list PySem.F.slot_list_extend PySem.F.type_list_extend mt_extend (pv 1) (pa_cons (pv 2) pa_nil)))))
    (pss_one (ps_ret (pv 1)))), ?_⟩
  have lb := rw_.len
  refine ⟨Nat.zero_le _, fun pf hpf => ?_⟩
  have s1 := Same.new (Same.refl H) hpf (.lst [])
  refine ⟨_, rfl, l, rfl, ⟨_, SqL.of (s1 _ _ hl)⟩, for_list (xs := bs.map V.ref) (fun i σ H' => ∃ (o1 : Option V), σ = [some (.ref l), some (.ref pf), o1] ∧ Same H H' ∧ H' pf = some (.lst (xss.take i).flatten)) ⟨_, rfl, s1, upd_same⟩ (fun i σ H' _ h => SqL.of (h.choose_spec.2.1 _ _ hl)) ?_ ?_⟩
  · rintro i v σ H2 hv ⟨o1, rfl, sm, hf⟩
    obtain ⟨b, xs, rfl, hx, hb⟩ := rw_.get hv
    have et : (xss.take (i + 1)).flatten = (xss.take i).flatten ++ xs := by
      rw [List.take_add_one, hx, List.flatten_append]
      simp
    have hz2 : (xss.take i).flatten.length + xs.length ≤ 1000 := by
      have h1 : (xss.take (i + 1)).flatten.length ≤ xss.flatten.length := by
        conv => rhs; rw [← List.take_append_drop (i + 1) xss, List.flatten_append, List.length_append]
        omega
      rw [et, List.length_append] at h1
      omega
    have nb : b ≠ pf := ne_of_none hb hpf
    refine ⟨_, rfl, .inl ⟨rfl, _, SqL.of hf⟩, _, rfl, pf, b, _, _, rfl, rfl, hf, sm _ _ hb, sz (by omega), ?_⟩
    exact ⟨_, rfl, sm.upd hpf _, by rw [upd_same, et]⟩
  · rintro σ H2 ⟨o1, rfl, sm, hf⟩
    rw [List.take_of_length_le (by rw [List.length_map]; omega)] at hf
    exact ⟨_, rfl, q pf H2 sm hpf hf⟩
theorem ok_any_cross {er : Er1} (EO : Er1Ok K mg er) {ca : ClA} (CA : ClOk K mg ca) {f : Addr} {fd : FuncData} (F : Fun K "any_cross" "any_cross" s_any_cross f fd) : FnOk P w K mg base CX0 1 f fd ["pairs"] (sp_any_cross K ca) := by
  refine F.ok sc_any_cross (fun vs H Q E h => ?_) (fun cdv A outer s H vs Q E hr h => ?_)
  · obtain ⟨l, ps, rfl, hl, q⟩ := h
    rfl
  obtain ⟨l, ps, rfl, hl, q⟩ := h
  refine ⟨_, pss_cons (ps_for PassesOwn.never rfl (pi_list (pv 0)) (pg_tup rfl (pgs_cons (pg_name (i := 1) sc_any_cross.nd rfl (Or.inl rfl)) (pgs_cons (pg_name (i := 2) sc_any_cross.nd rfl (Or.inl rfl)) pgs_nil))) (pss_one (ps_for PassesOwn.never rfl (pi_list (pv 0)) (pg_tup rfl (pgs_cons (pg_name (i := 3) sc_any_cross.nd rfl (Or.inl rfl)) (pgs_cons (pg_name (i := 4) sc_any_cross.nd rfl (Or.inl rfl)) pgs_nil))) (pss_one (ps_if (pt_ch3 op_lt op_lt op_lt (pv 1) (pv 3) (pv 2) (pv 4)) (pss_one (ps_ret pe_bl)) pss_nil)))))
    (pss_one (ps_ret pe_bl)), ?_⟩
  obtain ⟨xs, el, lxs, pr⟩ := hl.len
  refine ⟨_, rfl, l, rfl, ⟨_, SqL.of el⟩, for_list (xs := xs) (fun i σ H' => ∃ (o1 o2 o3 o4 : Option V), σ = [some (.ref l), o1, o2, o3, o4] ∧ H = H' ∧ ∀ p ∈ ps.take i, ps.any (crsP p) = false) ⟨_, _, _, _, rfl, rfl, by simp⟩ (fun i σ H' _ h => by obtain ⟨_, _, _, _, _, rfl, _⟩ := h; exact SqL.of el) ?_ ?_⟩
  · rintro i v σ H2 hv ⟨o1, o2, o3, o4, rfl, rfl, al⟩
    obtain ⟨pp, tt, hpp, rfl, htt⟩ := pr.get hv
    refine ⟨tt, _, rfl, SqT.of htt, rfl, _, _, rfl, _, _, rfl, rfl, ?_⟩
    refine ⟨_, rfl, l, rfl, ⟨_, SqL.of el⟩, for_list (xs := xs) (fun j σ H' => ∃ (o3 o4 : Option V), σ = [some (.ref l), some (.int pp.1), some (.int pp.2), o3, o4] ∧ H = H' ∧ ∀ r ∈ ps.take j, crsP pp r = false) ⟨_, _, rfl, rfl, by simp⟩ (fun i σ H' _ h => by obtain ⟨_, _, _, rfl, _⟩ := h; exact SqL.of el) ?_ ?_⟩
    · rintro j v σ H3 hv ⟨o3, o4, rfl, rfl, al2⟩
      obtain ⟨rr, t2, hrr, rfl, ht2⟩ := pr.get hv
      refine ⟨t2, _, rfl, SqT.of ht2, rfl, _, _, rfl, _, _, rfl, rfl, ?_⟩
      have next : crsP pp rr = false → ∀ r ∈ ps.take (j + 1), crsP pp r = false := fun hc r hr => by
        rw [List.take_add_one, hrr] at hr
        rcases List.mem_append.mp hr with z | z
        · exact al2 r z
        · have : r = rr := by simpa using z
          rw [this]; exact hc
      refine ⟨_, rfl, _, rfl, _, _, rfl, rfl, _, rfl, ?_⟩
      by_cases c1 : pp.1 < rr.1
      · refine iteP c1 ⟨_, rfl, _, _, rfl, rfl, _, rfl, ?_⟩
        by_cases c2 : rr.1 < pp.2
        · refine iteP c2 ⟨_, rfl, _, _, rfl, rfl, _, rfl, ?_⟩
          by_cases c3 : pp.2 < rr.2
          · refine iteP c3 ?_
            have : crossB ps = true := crossB_iff.mpr ⟨pp, List.mem_of_getElem? hpp, rr, List.mem_of_getElem? hrr, c1, c2, c3⟩
            rw [this] at q
            exact q
          · exact iteN c3 ⟨_, _, rfl, rfl, next (by unfold crsP; simp [c3])⟩
        · exact iteN c2 ⟨_, rfl, iteF ⟨_, _, rfl, rfl, next (by unfold crsP; simp [c2])⟩⟩
      · exact iteN c1 ⟨_, rfl, iteF ⟨_, _, rfl, rfl, next (by unfold crsP; simp [c1])⟩⟩
    · rintro σ H3 ⟨o3, o4, rfl, rfl, al2⟩
      rw [List.take_of_length_le (by omega)] at al2
      refine ⟨_, _, _, _, rfl, rfl, fun p hp => ?_⟩
      rw [List.take_add_one, hpp] at hp
      rcases List.mem_append.mp hp with z | z
      · exact al p z
      · have : p = pp := by simpa using z
        rw [this, List.any_eq_false]
        intro r hr
        rw [al2 r hr]
        decide
  · rintro σ H2 ⟨o1, o2, o3, o4, rfl, rfl, al⟩
    rw [List.take_of_length_le (by omega)] at al
    have : crossB ps = false := by
      unfold crossB
      rw [List.any_eq_false]
      intro p hp
      rw [al p hp]
      decide
    rw [this] at q
    exact q
theorem ok_neighbours {er : Er1} (EO : Er1Ok K mg er) {ca : ClA} (CA : ClOk K mg ca) {f : Addr} {fd : FuncData} (F : Fun K "neighbours" "neighbours" s_neighbours f fd) {f0 : Addr} {fd0 : FuncData} (d_flat : Def P w K mg base "flat" ["rows"] 1 (sp_flat K ca) f0 fd0) (m_list : mg "list" = none) (m_zip : mg "zip" = none) : FnOk P w K mg base CX0 2 f fd ["rooms"] (sp_neighbours K ca) := by
  refine F.ok sc_neighbours (fun vs H Q E h => ?_) (fun cdv A outer s H vs Q E hr h => ?_)
  · obtain ⟨l, H0, rs, rfl, hl, hz, hz2, q⟩ := h
    rfl
  obtain ⟨l, H0, rs, rfl, hl, hz, hz2, q⟩ := h
  refine ⟨_, pss_one (ps_ret (pcall d_flat hr (pa_cons (pe_comp rfl (pi_list (pv 0)) rfl rfl rfl rfl (N := ["room"]) (.own .nil) (fun _ _ _ _ _ _ => (pg_name (i := 0) (by show List.Nodup (["room"] : List Str); decide +kernel) rfl (Or.inl rfl))) (fun _ _ _ _ _ _ => pts_nil) (fun _ _ _ _ _ _ => (pe_lzip (K := K) rfl rfl rfl m_list rfl m_zip (pa_cons (pv 0) (pa_cons (pe_slice (sl_listK (K := K) rfl) (pv 0) (po_some pe_int) po_none) pa_nil))))) pa_nil))), ?_⟩
  obtain ⟨xs, el, lxs⟩ := hl.len
  refine ⟨_, rfl, l, rfl, ⟨_, SqL.of el⟩, fun D hD => comp_walk (xs := xs) (fun k ys H' => ∃ (bs : List Addr) (xss : List (List V)), Same H H' ∧ H' D = some (.lst ys) ∧ ys = bs.map V.ref ∧ RwsAt H' bs xss ∧ (∀ b ∈ bs, b ≠ D) ∧ Prs H' xss.flatten (nbs (rs.take k)) ∧ k ≤ rs.length ∧ bs.length = k) (sz (by omega)) ⟨[], [], Same.new (Same.refl H) hD _, upd_same, rfl, .nil, fun b hb => absurd hb (by simp), .nil, Nat.zero_le _, rfl⟩ (fun k ys H' hk h => ?_) (fun k v ys H' R R0 hx h r r0 => ?_) (fun ys H' h => ?_)⟩
  · obtain ⟨bs, xss, sm, _, rfl, _, _, _, _, lb⟩ := h
    exact ⟨SqL.of (sm _ _ el), by rw [List.length_map]; omega⟩
  · obtain ⟨bs, xss, sm, hy, rfl, rws, nD, pr, hk, lb⟩ := h
    obtain ⟨b, ns, rfl, hn, hb, _⟩ := hl.at el hx
    have hlt : k < rs.length := (List.getElem?_eq_some_iff.mp hn).1
    have hb2 := sm _ _ hb
    have ln : ns.length ≤ rs.flatten.length := len_one rs ns (List.mem_of_getElem? hn)
    refine ⟨Ext.set rfl, ttN (iteT ⟨_, rfl, _, rfl, _, rfl, b, _, rfl, SqL.of hb2, fun ps hps => ?_⟩)⟩
    have s3 := Same.new (Same.refl H') hps (.lst (cutV (ns.map V.int) (some 1) none))
    have e1 : cutV (ns.map V.int) (some 1) none = (ns.drop 1).map V.int := by rw [cutV_map, cutI_tail]
    refine ⟨b, ps, ns, ns.drop 1, rfl, SqL.of (s3 _ _ hb2), SqL.of (by rw [upd_same, e1]), by omega, fun pz H3 s4 f4 h4 => ?_⟩
    have s5 := s3.trans s4
    obtain ⟨zs, ez, lz, pz4⟩ := h4.len
    have hy5 := s5 _ _ hy
    have nz : pz ≠ D := fun z => by
      rw [z] at f4
      rw [s3 _ _ hy] at f4
      cases f4
    refine r _ _ hy5 ⟨bs ++ [pz], xss ++ [zs], (sm.trans s5).upd hD _, upd_same, by rw [List.map_append]; rfl, ?_, ?_, ?_, hlt, by rw [List.length_append]; show bs.length + 1 = k + 1; omega⟩
    · have up : ∀ {c : Addr} {ws : List V}, c ≠ D → H3 c = some (.lst ws) → upd H3 D (.lst (bs.map V.ref ++ [.ref pz])) c = some (.lst ws) := fun n e => (upd_ne n).trans e
      have go : ∀ {bs : List Addr} {xss : List (List V)}, RwsAt H' bs xss → (∀ b ∈ bs, b ≠ D) → RwsAt (upd H3 D (.lst (bs.map V.ref ++ [.ref pz]))) bs xss → True := fun _ _ _ => trivial
      have rws5 := rws.same s5
      have g : ∀ {cs : List Addr} {wss : List (List V)}, RwsAt H3 cs wss → (∀ c ∈ cs, c ≠ D) → RwsAt (upd H3 D (.lst (bs.map V.ref ++ [.ref pz]))) (cs ++ [pz]) (wss ++ [zs]) := by
        intro cs wss h hc
        induction h with
        | nil => exact .cons (up nz ez) .nil
        | cons x _ ih => exact .cons (up (hc _ (by simp)) x) (ih fun c hc' => hc c (by simp [hc']))
      exact g rws5 nD
    · intro c hc
      rcases List.mem_append.mp hc with z | z
      · exact nD c z
      · rw [show c = pz by simpa using z]; exact nz
    · have e2 : nbs (rs.take (k + 1)) = nbs (rs.take k) ++ ns.zip (ns.drop 1) := by
        unfold nbs
        rw [List.take_add_one, hn, List.map_append, List.flatten_append]
        simp
      rw [e2, List.flatten_append]
      have p1 := (pr.same s5).app pz4
      rw [show ([zs] : List (List V)).flatten = zs by simp]
      exact p1.updL hy5 _
  · obtain ⟨bs, xss, sm, hy, rfl, rws, nD, pr, hk, lb⟩ := h
    rw [List.take_of_length_le (by omega)] at pr
    have lf : (nbs rs).length ≤ rs.flatten.length := by
      unfold nbs
      rw [List.length_flatten, List.length_flatten, List.map_map]
      have go : ∀ rs : List (List Int), (rs.map (List.length ∘ fun r => r.zip (r.drop 1))).sum ≤ (rs.map List.length).sum := fun rs => by
        induction rs with
        | nil => exact Nat.le_refl _
        | cons r rs ih =>
          rw [List.map_cons, List.map_cons, List.sum_cons, List.sum_cons]
          have : (r.zip (r.drop 1)).length ≤ r.length := by rw [List.length_zip]; exact Nat.min_le_left _ _
          show (r.zip (r.drop 1)).length + _ ≤ _
          omega
      exact go rs
    refine ⟨D, bs, xss, rfl, hy, rws, by rw [pr.length]; omega, fun pf H3 s3 f3 h3 => q pf H3 (sm.trans s3) (sm.free f3) ⟨_, h3, pr.same s3⟩⟩
theorem ok_Rooms__is_one {er : Er1} (EO : Er1Ok K mg er) {ca : ClA} (CA : ClOk K mg ca) {fd : FuncData} (F : Fun K "is_one" "Rooms.is_one" s_Rooms__is_one ca.f_Rooms__is_one fd) {f0 : Addr} {fd0 : FuncData} (d_each_once : Def P w K mg base "each_once" ["numbers"] 1 (sp_each_once K ca) f0 fd0) {f1 : Addr} {fd1 : FuncData} (d_flat : Def P w K mg base "flat" ["rows"] 1 (sp_flat K ca) f1 fd1) {f2 : Addr} {fd2 : FuncData} (d_any_cross : Def P w K mg base "any_cross" ["pairs"] 1 (sp_any_cross K ca) f2 fd2) {f3 : Addr} {fd3 : FuncData} (d_neighbours : Def P w K mg base "neighbours" ["rooms"] 2 (sp_neighbours K ca) f3 fd3) (m_sorted : mg "sorted" = none) : FnOk P w K mg base CX0 3 ca.f_Rooms__is_one fd ["self", "thing"] (sp_Rooms__is_one K ca) := by
  refine F.ok sc_Rooms__is_one (fun vs H Q E h => ?_) (fun cdv A outer s H vs Q E hr h => ?_)
  · obtain ⟨x, l, H0, rs, rfl, hl, hz, hz2, hz1, q⟩ := h
    rfl
  obtain ⟨x, l, H0, rs, rfl, hl, hz, hz2, hz1, q⟩ := h
  refine ⟨_, pss_cons (ps_if (PW.pt (pw_or (pt_cmpR (op_inE (hu100 hr)) (pe_lst pa_nil) (pv 1) (by rfl)) (pw_or1 (pt_not (pt_val (pcall d_each_once hr (pa_cons (pcall d_flat hr (pa_cons (pv 1) pa_nil)) pa_nil))))))) (pss_one (ps_ret pe_bl)) pss_nil)
    (pss_one (ps_ret (pe_and (pe_cmpR (op_eqD (hu100 hr)) (pv 1) (pe_callB (call_sortedL (hu100 hr)) rfl m_sorted bb_sorted (pa_cons (pe_comp rfl (pi_list (pv 1)) rfl rfl rfl rfl (N := ["room"]) (.own .nil) (fun _ _ _ _ _ _ => (pg_name (i := 0) (by show List.Nodup (["room"] : List Str); decide +kernel) rfl (Or.inl rfl))) (fun _ _ _ _ _ _ => pts_nil) (fun _ _ _ _ _ _ => (pe_callB (call_sortedK (K := K) rfl) rfl m_sorted bb_sorted (pa_cons (pv 0) pa_nil)))) pa_nil)) (nomark _)) (pe_one (pe_not (pcall d_any_cross hr (pa_cons (pcall d_neighbours hr (pa_cons (pv 1) pa_nil)) pa_nil))))))), ?_⟩
  refine ⟨Nat.zero_le _, fun pe hpe => ?_⟩
  have s1 := Same.new (Same.refl H) hpe (.lst [])
  have hl1 := hl.same s1
  have he1 : upd H pe (.lst []) pe = some (.lst []) := upd_same
  generalize upd H pe (.lst []) = H1 at s1 hl1 he1 ⊢
  refine ⟨_, rfl, pe, l, H0, rs, rfl, rfl, he1, hl1, _, rfl, ?_⟩
  cases hv : rs.any fun r => decide (r = []) with
  | true =>
    obtain ⟨r, hr, e⟩ := List.any_eq_true.mp hv
    rw [isR_void ⟨r, hr, of_decide_eq_true e⟩] at q
    exact iteT (iteT (q _ s1))
  | false =>
    have hne : ∀ r ∈ rs, r ≠ [] := fun r hr e => by
      have := List.any_eq_false.mp hv r hr
      exact this (decide_eq_true e)
    obtain ⟨bs, el, rws⟩ := hl1.rws
    refine iteF ⟨_, rfl, l, bs, _, rfl, el, rws, by rw [flat_map, List.length_map]; omega, fun pf H2 s2 f2 h2 => ?_⟩
    rw [flat_map] at h2
    refine ⟨pf, rs.flatten, rfl, h2, hz2, fun H3 s3 => ⟨_, rfl, ?_⟩⟩
    have s13 := s1.trans (s2.trans s3)
    have hl3 := hl.same s13
    cases hE : eachB rs.flatten with
    | false =>
      rw [isR_each hE] at q
      exact iteT (q _ s13)
    | true =>
      rw [isR_rest hne hE] at q
      obtain ⟨xs, ex, lxs⟩ := hl3.len
      refine iteF ⟨_, rfl, _, rfl, l, rfl, ⟨_, SqL.of ex⟩, fun D hD => comp_walk (xs := xs) (fun k ys H' => ∃ ts : List (List Int), Same H3 H' ∧ H' D = some (.lst ys) ∧ LLs H3 H' D ts ∧ Paired (fun (r t : List Int) => t.Perm r ∧ t.Pairwise (· ≤ ·)) (rs.take k) ts ∧ k ≤ rs.length) (sz (by omega)) ⟨[], Same.new (Same.refl H3) hD _, upd_same, LLs.nil upd_same, .nil, Nat.zero_le _⟩ (fun k ys H' hk h => ?_) (fun k v ys H' R R0 hx h r r0 => ?_) (fun ys H' h => ?_)⟩
      · obtain ⟨ts, sm, hy, lt, pt, hk'⟩ := h
        obtain ⟨us, eu, lu⟩ := lt.len
        rw [hy] at eu
        cases eu
        refine ⟨SqL.of (sm _ _ ex), ?_⟩
        rw [lu, ← Paired.length pt, List.length_take]
        omega
      · obtain ⟨ts, sm, hy, lt, pt, hk'⟩ := h
        obtain ⟨b, ns, rfl, hn, hb, _⟩ := hl3.at ex hx
        have hlt : k < rs.length := (List.getElem?_eq_some_iff.mp hn).1
        refine ⟨Ext.set rfl, ttN (iteT ⟨_, rfl, b, ns, rfl, SqL.of (sm _ _ hb), hz1 ns (List.mem_of_getElem? hn), fun c ms hc hp hs => ?_⟩)⟩
        have k9 := Same.new (Same.refl H') hc (.lst (ms.map V.int))
        refine r _ _ (k9 _ _ hy) ⟨ts ++ [ms], (sm.trans k9).upd hD _, upd_same, lt.push hy k9 hc upd_same (sm.free hc), ?_, hlt⟩
        rw [List.take_add_one, hn]
        exact paired_app pt (.cons ⟨hp, hs⟩ .nil)
      · obtain ⟨ts, sm, hy, lt, pt, hk'⟩ := h
        rw [List.take_of_length_le (by omega)] at pt
        have ltl := Paired.length pt
        refine ⟨D, _, ts, rfl, lt, by omega, fun pq ss H5 s5 f5 l5 hp hs _ => ?_⟩
        have s15 := s13.trans (sm.trans s5)
        have hl5 := hl.same s15
        have ne : l ≠ pq := by
          obtain ⟨_, e, _⟩ := hl3.same sm
          exact ne_of_none e f5
        refine ⟨2, _, by decide, EqD.rooms hl5 l5 ne, ⟨l, pq, rfl, rfl, ne⟩, _, rfl, ?_⟩
        rw [isR_sort pt hp hs hne hE]
        cases hR : risR rs with
        | false =>
          rw [hR, Bool.false_and] at q
          exact iteF (q _ s15)
        | true =>
          rw [hR, Bool.true_and] at q
          exact iteT ⟨_, rfl, l, H0, rs, rfl, hl5, by omega, by omega, fun pn H6 s6 f6 h6 => ⟨pn, nbs rs, rfl, h6, _, rfl, q _ (s15.trans s6)⟩⟩
theorem ok_Rooms__Family_refuse_other {er : Er1} (EO : Er1Ok K mg er) {ca : ClA} (CA : ClOk K mg ca) {fd : FuncData} (F : Fun K "refuse_other" "Family.refuse_other" s_Rooms__Family_refuse_other ca.f_Rooms__Family_refuse_other fd) {fd0 : FuncData} (d_Rooms__is_one : MDef P w K mg base ["self", "thing"] 3 (sp_Rooms__is_one K ca) ca.f_Rooms__is_one fd0) : FnOk P w K mg base (CX1 P w) 4 ca.f_Rooms__Family_refuse_other fd ["self", "thing"] (sp_Rooms__Family_refuse_other K ca er) := by
  refine F.okE sc_Rooms__Family_refuse_other (fun vs H Q E h => ?_) (fun cdv A outer s H vs Q E hr h => ?_)
  · obtain ⟨x, dx, fs, l, H0, rs, rfl, hx, fl, hl, hz, hz2, hz1, hB, q⟩ := h
    rfl
  obtain ⟨x, dx, fs, l, H0, rs, rfl, hx, fl, hl, hz, hz2, hz1, hB, q⟩ := h
  refine ⟨_, pss_one (ps_if (pt_not (pt_val (pmeth (pv 0) CA.c_Rooms CA.mt_Rooms_is_one d_Rooms__is_one hr (pa_cons (pv 1) pa_nil)))) (pss_one (ps_raise thr_def EO.x_thing rfl EO.m_thing (pa_cons pe_str pa_nil))) pss_nil), ?_⟩
  refine ⟨_, rfl, x, dx, fs, rfl, hx, fl.no "is_one" (by decide) (by decide), _, rfl, x, l, H0, rs, rfl, hl, hz, hz2, hz1, fun H1 s1 => ⟨_, rfl, ?_⟩⟩
  rw [hB]
  exact iteT ⟨sz (n := 1) (by decide), q H1 s1⟩
theorem ok_Rooms__Family_number_of {er : Er1} (EO : Er1Ok K mg er) {ca : ClA} (CA : ClOk K mg ca) {fd : FuncData} (F : Fun K "number_of" "Family.number_of" s_Rooms__Family_number_of ca.f_Rooms__Family_number_of fd) {fd0 : FuncData} (d_Rooms__Family_refuse_other : MDef P w K mg base ["self", "thing"] 4 (sp_Rooms__Family_refuse_other K ca er) ca.f_Rooms__Family_refuse_other fd0) : FnOk P w K mg base (CX1 P w) 5 ca.f_Rooms__Family_number_of fd ["self", "thing"] (sp_Rooms__Family_number_of K ca er) := by
  refine F.okE sc_Rooms__Family_number_of (fun vs H Q E h => ?_) (fun cdv A outer s H vs Q E hr h => ?_)
  · obtain ⟨x, dx, fs, l, H0, rs, rfl, hx, fl, hl, hz, hz2, hz1, hB, q⟩ := h
    rfl
  obtain ⟨x, dx, fs, l, H0, rs, rfl, hx, fl, hl, hz, hz2, hz1, hB, q⟩ := h
  refine ⟨_, pss_cons (ps_expr (pmethT thr_def (pv 0) CA.c_Rooms CA.mt_Rooms_refuse_other d_Rooms__Family_refuse_other hr (pa_cons (pv 1) pa_nil)))
    pss_never, ?_⟩
  exact ⟨_, rfl, x, dx, fs, rfl, hx, fl.no "refuse_other" (by decide) (by decide), _, rfl, x, dx, fs, l, H0, rs, rfl, hx, fl, hl, hz, hz2, hz1, hB, q⟩
theorem ok_Rooms__Family_next_of {er : Er1} (EO : Er1Ok K mg er) {ca : ClA} (CA : ClOk K mg ca) {fd : FuncData} (F : Fun K "next_of" "Family.next_of" s_Rooms__Family_next_of ca.f_Rooms__Family_next_of fd) {fd0 : FuncData} (d_Rooms__Family_number_of : MDef P w K mg base ["self", "thing"] 5 (sp_Rooms__Family_number_of K ca er) ca.f_Rooms__Family_number_of fd0) : FnOk P w K mg base (CX1 P w) 6 ca.f_Rooms__Family_next_of fd ["self", "thing"] (sp_Rooms__Family_next_of K ca er) := by
  refine F.okE sc_Rooms__Family_next_of (fun vs H Q E h => ?_) (fun cdv A outer s H vs Q E hr h => ?_)
  · obtain ⟨x, dx, fs, l, H0, rs, rfl, hx, fl, hl, hz, hz2, hz1, hB, q⟩ := h
    rfl
  obtain ⟨x, dx, fs, l, H0, rs, rfl, hx, fl, hl, hz, hz2, hz1, hB, q⟩ := h
  refine ⟨_, pss_cons (ps_set (i := 2) sc_Rooms__Family_next_of.nd rfl (Or.inl rfl) (pe_op op_add (pmethT thr_def (pv 0) CA.c_Rooms CA.mt_Rooms_number_of d_Rooms__Family_number_of hr (pa_cons (pv 1) pa_nil)) pe_int))
    pss_never, ?_⟩
  exact ⟨_, rfl, x, dx, fs, rfl, hx, fl.no "number_of" (by decide) (by decide), _, rfl, x, dx, fs, l, H0, rs, rfl, hx, fl, hl, hz, hz2, hz1, hB, q⟩
theorem ok__law_refused {er : Er1} (EO : Er1Ok K mg er) {ca : ClA} (CA : ClOk K mg ca) {f : Addr} {fd : FuncData} (F : Fun K "_law_refused" "_law_refused" s__law_refused f fd) {fd0 : FuncData} (d_Rooms__Family_number_of : MDef P w K mg base ["self", "thing"] 5 (sp_Rooms__Family_number_of K ca er) ca.f_Rooms__Family_number_of fd0) {fd1 : FuncData} (d_Rooms__Family_next_of : MDef P w K mg base ["self", "thing"] 6 (sp_Rooms__Family_next_of K ca er) ca.f_Rooms__Family_next_of fd1) : FnOk P w K mg base CX0 7 f fd ["_law_kin", "_law_rooms_here"] (sp__law_refused K ca er) := by
  refine F.ok sc__law_refused (fun vs H Q E h => ?_) (fun cdv A outer s H vs Q E hr h => ?_)
  · obtain ⟨x, dx, fs, l, H0, rs, rfl, hx, fl, hl, hz, hz2, hz1, hB, q⟩ := h
    rfl
  obtain ⟨x, dx, fs, l, H0, rs, rfl, hx, fl, hl, hz, hz2, hz1, hB, q⟩ := h
  refine ⟨_, pss_cons (ps_set (i := 2) sc__law_refused.nd rfl (Or.inl rfl) pe_int)
    (pss_cons (ps_tryNo rfl rfl rfl rfl EO.m_thing (px_meth (fun _ _ => (pv 0)) CA.c_Rooms CA.mt_Rooms_number_of d_Rooms__Family_number_of hr (fun _ _ => (pa_cons (pv 1) pa_nil))) (fun _ => (pss_one (ps_set (i := 2) sc__law_refused.nd rfl (Or.inl rfl) (pe_op op_add (pv 2) pe_int)))))
    (pss_cons (ps_tryNo rfl rfl rfl rfl EO.m_thing (px_meth (fun _ _ => (pv 0)) CA.c_Rooms CA.mt_Rooms_next_of d_Rooms__Family_next_of hr (fun _ _ => (pa_cons (pv 1) pa_nil))) (fun _ => (pss_one (ps_set (i := 2) sc__law_refused.nd rfl (Or.inl rfl) (pe_op op_add (pv 2) pe_int)))))
    (pss_one (ps_ret (pe_cmpR op_eq (pv 2) pe_int (nomark _)))))), ?_⟩
  refine ⟨_, rfl, x, dx, fs, rfl, hx, fl.no "number_of" (by decide) (by decide), _, rfl, x, dx, fs, l, H0, rs, rfl, hx, fl, hl, hz, hz2, hz1, hB, fun H1 s1 => ⟨EO.t_thing, _, rfl, _, _, rfl, rfl, ?_⟩⟩
  refine ⟨_, rfl, x, dx, fs, rfl, s1 _ _ hx, fl.no "next_of" (by decide) (by decide), _, rfl, x, dx, fs, l, H0, rs, rfl, s1 _ _ hx, fl, hl.same s1, hz, hz2, hz1, hB, fun H2 s2 => ⟨EO.t_thing, _, rfl, _, _, rfl, rfl, ?_⟩⟩
  exact ⟨_, rfl, rfl, q _ (s1.trans s2)⟩
theorem ok_Rooms__size_of {er : Er1} (EO : Er1Ok K mg er) {ca : ClA} (CA : ClOk K mg ca) {fd : FuncData} (F : Fun K "size_of" "Rooms.size_of" s_Rooms__size_of ca.f_Rooms__size_of fd) (m_sum : mg "sum" = none) (m_len : mg "len" = none) : FnOk P w K mg base CX0 1 ca.f_Rooms__size_of fd ["self", "thing"] (sp_Rooms__size_of K ca) := by
  refine F.ok sc_Rooms__size_of (fun vs H Q E h => ?_) (fun cdv A outer s H vs Q E hr h => ?_)
  · obtain ⟨x, l, Ha, ls, rfl, hl, hz, q⟩ := h
    rfl
  obtain ⟨x, l, Ha, ls, rfl, hl, hz, q⟩ := h
  refine ⟨_, pss_one (ps_ret (pe_callB (call_sum rfl) rfl m_sum bb_sum (pa_cons (pe_comp rfl (pi_list (pv 1)) rfl rfl rfl rfl (N := ["room"]) (.own .nil) (fun _ _ _ _ _ _ => (pg_name (i := 0) (by show List.Nodup (["room"] : List Str); decide +kernel) rfl (Or.inl rfl))) (fun _ _ _ _ _ _ => pts_nil) (fun _ _ _ _ _ _ => (pe_callB (call_len_seqK (K := K) rfl) rfl m_len bb_len (pa_cons (pv 0) pa_nil)))) pa_nil))), ?_⟩
  obtain ⟨xs, el, lxs⟩ := hl.len
  refine ⟨_, rfl, l, rfl, ⟨_, SqL.of el⟩, fun D hD => comp_walk (xs := xs) (fun k ys H' => Same H H' ∧ H' D = some (.lst ys) ∧ ys = ((ls.take k).map fun r => (r.length : Int)).map V.int ∧ k ≤ ls.length) (sz (by omega)) ⟨Same.new (Same.refl H) hD _, upd_same, rfl, Nat.zero_le _⟩ (fun k ys H' hk h => ⟨SqL.of (h.1 _ _ el), ?_⟩) (fun k v ys H' R R0 hx h r r0 => ?_) (fun ys H' h => ?_)⟩
  · rw [h.2.2.1, List.length_map, List.length_map, List.length_take]; omega
  · obtain ⟨sm, hy, ey, hk⟩ := h
    obtain ⟨b, ns, rfl, hn, hb, _⟩ := hl.at el hx
    have hlt : k < ls.length := (List.getElem?_eq_some_iff.mp hn).1
    refine ⟨Ext.set rfl, ttN (iteT ⟨_, rfl, b, _, rfl, .inl (SqL.of (sm _ _ hb)), r _ _ hy ⟨sm.upd hD _, upd_same, ?_, hlt⟩⟩)⟩
    rw [List.take_add_one, hn, List.map_append, List.map_append, ← ey, List.length_map]
    rfl
  · obtain ⟨sm, hy, ey, hk⟩ := h
    rw [List.take_of_length_le (by omega)] at ey
    rw [ey] at hy
    refine ⟨D, _, rfl, SqL.of hy, ?_⟩
    rw [sum_lens]
    exact q _ sm
theorem ok_law {er : Er1} (EO : Er1Ok K mg er) {ca : ClA} (CA : ClOk K mg ca) {f : Addr} {fd : FuncData} (F : Fun K "law" "law" s_law f fd) {f0 : Addr} {fd0 : FuncData} (d__law_rooms : Def P w K mg base "_law_rooms" ["_law_script", "_law_size", "_law_turn"] 2 (sp__law_rooms K ca) f0 fd0) {f1 : Addr} {fd1 : FuncData} (d__law_cell_at : Def P w K mg base "_law_cell_at" ["_law_script", "_law_k"] 1 (sp__law_cell_at K ca) f1 fd1) {f2 : Addr} {fd2 : FuncData} (d__law_copy : Def P w K mg base "_law_copy" ["_law_rooms_here"] 1 (sp__law_copy K ca) f2 fd2) {f3 : Addr} {fd3 : FuncData} (d__law_changed : Def P w K mg base "_law_changed" ["_law_rooms_here", "_law_draws_here", "_law_far", "_law_turn"] 2 (sp__law_changed K ca) f3 fd3) {f4 : Addr} {fd4 : FuncData} (d__law_draws : Def P w K mg base "_law_draws" ["_law_script", "_law_turn", "_law_many"] 1 (sp__law_draws K ca) f4 fd4) {f5 : Addr} {fd5 : FuncData} (d__law_dealt : Def P w K mg base "_law_dealt" ["_law_script"] 2 (sp__law_dealt K ca) f5 fd5) {f6 : Addr} {fd6 : FuncData} (d__law_stand : Def P w K mg base "_law_stand" ["_law_rooms_here"] 2 (sp__law_stand K ca) f6 fd6) {fd7 : FuncData} (d_Rooms____init__ : MDef P w K mg base ["self"] 5 (sp_Rooms____init__ K ca) ca.f_Rooms____init__ fd7) {fd8 : FuncData} (d_Rooms__is_one : MDef P w K mg base ["self", "thing"] 3 (sp_Rooms__is_one K ca) ca.f_Rooms__is_one fd8) {f9 : Addr} {fd9 : FuncData} (d__law_refused : Def P w K mg base "_law_refused" ["_law_kin", "_law_rooms_here"] 7 (sp__law_refused K ca er) f9 fd9) {fd10 : FuncData} (d_Rooms__size_of : MDef P w K mg base ["self", "thing"] 1 (sp_Rooms__size_of K ca) ca.f_Rooms__size_of fd10) (m_len : mg "len" = none) (m_isinstance : mg "isinstance" = none) (m_bool : mg "bool" = none) (m_sum : mg "sum" = none) (m_int : mg "int" = none) : FnOk P w K mg base CX0 8 f fd ["_law_script"] (sp_law K ca er) := by
  refine F.ok sc_law (fun vs H Q E h => ?_) (fun cdv A outer s H vs Q E hr h => ?_)
  · obtain ⟨a, ns, rfl, hS, h63, q⟩ := h
    rfl
  obtain ⟨a, ns, rfl, hS, h63, q⟩ := h
  refine ⟨_, pss_cons (ps_set (i := 1) sc_law.nd rfl (Or.inl rfl) (pcall d__law_rooms hr (pa_cons (pv 0) (pa_cons (pe_op op_mod (pcall d__law_cell_at hr (pa_cons (pv 0) (pa_cons pe_int pa_nil))) pe_int) (pa_cons pe_int pa_nil)))))
    (pss_cons (ps_set (i := 2) sc_law.nd rfl (Or.inl rfl) (pe_op op_mod (pcall d__law_cell_at hr (pa_cons (pv 0) (pa_cons pe_int pa_nil))) pe_int))
    (pss_cons (ps_set (i := 3) sc_law.nd rfl (Or.inl rfl) (pcall d__law_copy hr (pa_cons (pv 1) pa_nil)))
    (pss_cut (ps_if (PW.pt (pw_and (pt_cmpR op_gt (pv 2) pe_int (nomark _)) (pw_and (pt_cmpR op_lt (pv 2) pe_int (nomark _)) (pw_and1 (pt_cmpR op_gt (pe_callB call_len_seq rfl m_len bb_len (pa_cons (pv 1) pa_nil)) pe_int (nomark _)))))) (pss_one (ps_set (i := 3) sc_law.nd rfl (Or.inl rfl) (pcall d__law_changed hr (pa_cons (pv 3) (pa_cons (pcall d__law_draws hr (pa_cons (pv 0) (pa_cons pe_int (pa_cons pe_int pa_nil)))) (pa_cons (pcall d__law_cell_at hr (pa_cons (pv 0) (pa_cons pe_int pa_nil))) (pa_cons (pv 2) pa_nil))))))) pss_nil)
    (pss_cut (ps_if (pt_cmpR op_eq (pv 2) pe_int (nomark _)) (pss_one (ps_set (i := 3) sc_law.nd rfl (Or.inl rfl) (pcall d__law_dealt hr (pa_cons (pv 0) pa_nil)))) pss_nil)
    (pss_cons (ps_set (i := 4) sc_law.nd rfl (Or.inl rfl) (pcall d__law_stand hr (pa_cons (pv 3) pa_nil)))
    (pss_cons (ps_set (i := 5) sc_law.nd rfl (Or.inl rfl) (pmake0 CA.mk_Rooms CA.m_Rooms d_Rooms____init__ hr))
    (pss_cons (ps_set (i := 6) sc_law.nd rfl (Or.inl rfl) (pcall d__law_copy hr (pa_cons (pv 3) pa_nil)))
    (pss_cons (ps_set (i := 7) sc_law.nd rfl (Or.inl rfl) (pmeth (pv 5) CA.c_Rooms CA.mt_Rooms_is_one d_Rooms__is_one hr (pa_cons (pv 6) pa_nil)))
    (pss_cons (ps_if (PW.pt (pw_or (pt_not (pt_val (pe_callB call_isinst rfl m_isinstance bb_isinstance (pa_cons (pv 7) (pa_cons (pe_bltn (v := .ty "bool") rfl m_bool bb_bool rfl) pa_nil))))) (pw_or1 (pt_cmpR op_ne (pv 7) (pv 4) (nomark _))))) (pss_one (ps_ret pe_bl)) pss_nil)
    (pss_cut (ps_if (PW.pt (pw_and (pt_not (pt_val (pv 4))) (pw_and1 (pt_not (pt_val (pcall d__law_refused hr (pa_cons (pv 5) (pa_cons (pv 6) pa_nil)))))))) (pss_one (ps_ret pe_bl)) pss_nil)
    (pss_cons (ps_set (i := 8) sc_law.nd rfl (Or.inl rfl) (pe_callB (call_sum rfl) rfl m_sum bb_sum (pa_cons (pe_comp rfl (pi_list (pv 3)) rfl rfl rfl rfl (N := ["_law_room"]) (.own .nil) (fun _ _ _ _ _ _ => (pg_name (i := 0) (by show List.Nodup (["_law_room"] : List Str); decide +kernel) rfl (Or.inl rfl))) (fun _ _ _ _ _ _ => pts_nil) (fun _ _ _ _ _ _ => (pe_callB (call_len_seqK (K := K) rfl) rfl m_len bb_len (pa_cons (pv 0) pa_nil)))) pa_nil)))
    (pss_cons (ps_set (i := 9) sc_law.nd rfl (Or.inl rfl) (pv 8))
    (pss_cut (ps_if (pt_val (pv 4)) (pss_one (ps_set (i := 9) sc_law.nd rfl (Or.inl rfl) (pmeth (pv 5) CA.c_Rooms CA.mt_Rooms_size_of d_Rooms__size_of hr (pa_cons (pv 6) pa_nil)))) pss_nil)
    (pss_cons (ps_if (PW.pt (pw_or (pt_not (pt_val (pe_callB call_isinst rfl m_isinstance bb_isinstance (pa_cons (pv 9) (pa_cons (pe_bltn (v := .ty "int") rfl m_int bb_int rfl) pa_nil))))) (pw_or (pt_val (pe_callB call_isinst rfl m_isinstance bb_isinstance (pa_cons (pv 9) (pa_cons (pe_bltn (v := .ty "bool") rfl m_bool bb_bool rfl) pa_nil)))) (pw_or1 (pt_cmpR op_ne (pv 9) (pv 8) (nomark _)))))) (pss_one (ps_ret pe_bl)) pss_nil)
    (pss_cons (ps_if (PW.pt (pw_or (pt_cmpR (op_neD (hu100 hr)) (pv 6) (pv 3) (nomark _)) (pw_or1 (pt_cmpR op_notB (pmeth (pv 5) CA.c_Rooms CA.mt_Rooms_is_one d_Rooms__is_one hr (pa_cons (pv 1) pa_nil)) pe_bl (nomark _))))) (pss_one (ps_ret pe_bl)) pss_nil)
    (pss_cons (ps_expr (pe_bm PySem.F.plainAttrs_list PySem.F.slot_list_append PySem.F.type_list_append mt_append (pv 6) (pa_cons (pe_lst pa_nil) pa_nil)))
    (pss_one (ps_ret (pe_cmpR op_isB (pmeth (pv 5) CA.c_Rooms CA.mt_Rooms_is_one d_Rooms__is_one hr (pa_cons (pv 6) pa_nil)) pe_bl (nomark _)))))))))))))))))))), ?_⟩
  have m0 := Int.emod_nonneg (ns.getD (0 : Int).toNat 0) (show (41 : Int) ≠ 0 by decide)
  have m1 := Int.emod_lt_of_pos (ns.getD (0 : Int).toNat 0) (show (0 : Int) < 41 by decide)
  refine ⟨_, rfl, _, rfl, a, ns, 0, rfl, hS, by decide, _, _, rfl, rfl, pm (by decide), ?_⟩
  try dsimp only
  generalize ns.getD (0 : Int).toNat 0 % 41 = z at m0 m1 ⊢
  obtain ⟨n, rfl⟩ : ∃ n : Nat, z = (n : Int) := ⟨z.toNat, by omega⟩
  refine ⟨a, ns, n, 2, rfl, hS, h63, by omega, by decide, by decide, fun pf ws op H1 s1 ff lf rom => ?_⟩
  have rm := rom.rms
  have ln := rm.lens
  have good := rom.rooms
  have fl : ws.flatten.length = n := by
    have := rm.flat.length_eq
    rw [iota_len] at this
    exact this
  obtain ⟨vf, ef, lvf⟩ := lf.len
  have t0 := Int.emod_nonneg (ns.getD (1 : Int).toNat 0) (show (12 : Int) ≠ 0 by decide)
  have t1 := Int.emod_lt_of_pos (ns.getD (1 : Int).toNat 0) (show (0 : Int) < 12 by decide)
  refine ⟨_, rfl, a, ns, 1, rfl, s1.seq hS, by decide, _, _, rfl, rfl, pm (by decide), ?_⟩
  try dsimp only
  generalize ns.getD (1 : Int).toNat 0 % 12 = t at t0 t1 ⊢
  refine ⟨_, rfl, pf, H, ws, rfl, lf, by omega, fun pl H2 s2 f2 l2 => ?_⟩
  have first : ∃ (p : Addr) (ms : List (List Int)), p = pl ∧ Same H1 H2 ∧ H1 p = none ∧ LLs H1 H2 p ms ∧ ms.length ≤ 41 ∧ ms.flatten.length ≤ 80 ∧ ∀ r ∈ ms, r.length ≤ 41 := ⟨pl, ws, rfl, s2, f2, l2, by omega, by omega, fun r hr => by have := ln.2 r hr; omega⟩
  refine ⟨fun σ H' => ∃ (o2 o3 o4 o5 o6 o7 : Option V) (p : Addr) (ms : List (List Int)), σ = [some (.ref a), some (.ref pf), some (.int t), some (.ref p), o2, o3, o4, o5, o6, o7] ∧ Same H1 H' ∧ H1 p = none ∧ LLs H1 H' p ms ∧ ms.length ≤ 41 ∧ ms.flatten.length ≤ 80 ∧ ∀ r ∈ ms, r.length ≤ 41, ?_, ?_⟩
  · obtain ⟨p, ms, rfl, k1, k2, k3, k4, k5, k6⟩ := first
    refine ⟨_, rfl, _, _, rfl, rfl, _, rfl, ?_⟩
    by_cases c1 : 1 < t
    · refine iteP c1 ⟨_, rfl, _, _, rfl, rfl, _, rfl, ?_⟩
      by_cases c2 : t < 11
      · refine iteP c2 ⟨_, rfl, pf, _, rfl, .inl (SqL.of (s2 _ _ ef)), _, _, rfl, rfl, _, rfl, ?_⟩
        by_cases c3 : (0 : Int) < ((vf.length : Nat) : Int)
        · refine iteP c3 ⟨_, rfl, _, rfl, a, ns, 200, 4, rfl, (s1.trans s2).seq hS, h63, by decide, by decide, by decide, by decide, fun pd xs H3 s3 fd hd lx bx => ?_⟩
          refine ⟨_, rfl, a, ns, 2, rfl, ((s1.trans s2).trans s3).seq hS, by decide, _, rfl, ?_⟩
          refine ⟨p, pd, H1, ws, xs, _, t, rfl, l2.same s3, s2.trans s3, f2, hd, by omega, rm.ne, by omega, by omega, by omega, by omega, by omega, fun p' ms' H4 z1 z2 z3 z4 z5 z6 => ?_⟩
          exact ⟨_, _, _, _, _, _, p', ms', rfl, z1, z2, z3, z4, z5, z6⟩
        · exact iteN c3 ⟨_, _, _, _, _, _, p, ms, rfl, k1, k2, k3, k4, k5, k6⟩
      · exact iteN c2 (iteF ⟨_, _, _, _, _, _, p, ms, rfl, k1, k2, k3, k4, k5, k6⟩)
    · exact iteN c1 (iteF ⟨_, _, _, _, _, _, p, ms, rfl, k1, k2, k3, k4, k5, k6⟩)
  rintro σ H3 ⟨o2, o3, o4, o5, o6, o7, p3, ms3, rfl, s3, f3, h3, l3, l3f, l3r⟩
  refine ⟨fun σ H' => ∃ (o2 o3 o4 o5 o6 o7 : Option V) (p : Addr) (ms : List (List Int)), σ = [some (.ref a), some (.ref pf), some (.int t), some (.ref p), o2, o3, o4, o5, o6, o7] ∧ Same H1 H' ∧ H1 p = none ∧ LLs H1 H' p ms ∧ ms.length ≤ 41 ∧ ms.flatten.length ≤ 80 ∧ ∀ r ∈ ms, r.length ≤ 41, ?_, ?_⟩
  · refine ⟨_, rfl, rfl, _, rfl, ite2 (fun _ => ?_) (fun _ => ⟨_, _, _, _, _, _, p3, ms3, rfl, s3, f3, h3, l3, l3f, l3r⟩)⟩
    refine ⟨_, rfl, a, ns, rfl, (s1.trans s3).seq hS, h63, fun p ms H4 s4 f4 h4 l4 l4f => ?_⟩
    exact ⟨_, _, _, _, _, _, p, ms, rfl, s3.trans s4, s3.free f4, h4.since s3, by omega, by omega, fun r hr => Nat.le_trans (len_one ms r hr) (by omega)⟩
  rintro σ H4 ⟨p2, p3', p4, p5, p6, p7, pm, ms, rfl, s4, f4, h4, l4, l4f, l4r⟩
  refine ⟨_, rfl, pm, H1, ms, rfl, h4, by omega, by omega, fun H5 s5 => ?_⟩
  have t5 := s4.trans s5
  have h5 := h4.same s5
  intro x dx nx ndx nex
  refine ⟨x, dx, rfl, upd_same, fun fsx Hx1 ex fx => ⟨rfl, ?_⟩⟩
  have sx : Same H5 Hx1 := by rw [ex]; exact ((Same.new (Same.refl H5) ndx _).upd nx _).upd nx _
  have hx : Hx1 x = some (.ins ca.C_Rooms dx fsx) := by rw [ex]; exact upd_same
  have h6 := h5.same sx
  obtain ⟨vm6, em6, lvm6⟩ := h6.len
  refine ⟨_, rfl, pm, H1, ms, rfl, h6, by omega, fun ch H7 s7 f7 l7 => ?_⟩
  have hx7 := s7 _ _ hx
  have ncm : pm ≠ ch := ne_of_none em6 f7
  have f1 := fx.no "is_one" (by decide) (by decide)
  have f2' := fx.no "size_of" (by decide) (by decide)
  have rb : ∀ r ∈ ms, r.length < 64 := fun r hr => by have := l4r r hr; omega
  refine ⟨_, rfl, x, dx, fsx, rfl, hx7, f1, _, rfl, x, ch, Hx1, ms, rfl, l7, by omega, by omega, rb, fun H8 s8 => ?_⟩
  have hx8 := s8 _ _ hx7
  have hc8 := l7.same s8
  refine ⟨_, rfl, _, _, _, _, _, rfl, relTy, .bl _, kit_bool_bool, _, rfl, iteF ⟨_, rfl, _, rfl, rfl, _, rfl, iteNS rfl ?_⟩⟩
  have t8 : Same H5 H8 := sx.trans (s7.trans s8)
  have hm8 := h5.same t8
  refine ⟨fun σ H' => ∃ (o6 o7 : Option V), σ = [some (.ref a), some (.ref pf), some (.int t), some (.ref pm), some (.bl (isRooms ms)), some (.ref x), some (.ref ch), some (.bl (isRooms ms)), o6, o7] ∧ Same H8 H', ?_, ?_⟩
  · cases hB : isRooms ms with
    | true => exact ⟨_, rfl, _, rfl, iteF (iteF ⟨_, _, rfl, Same.refl H8⟩)⟩
    | false => exact ⟨_, rfl, _, rfl, iteT ⟨_, rfl, _, rfl, x, dx, fsx, ch, Hx1, ms, rfl, hx8, fx, hc8, by omega, by omega, rb, hB, fun H9 s9 => ⟨_, rfl, iteF ⟨_, _, rfl, s9⟩⟩⟩⟩
  rintro σ H9 ⟨o6, o7, rfl, s9⟩
  have hx9 := s9 _ _ hx8
  have hc9 := hc8.same s9
  have hm9 := hm8.same s9
  have hf9 := lf.same (t5.trans (t8.trans s9))
  obtain ⟨um, eum, lum⟩ := hm9.len
  refine ⟨_, rfl, pm, rfl, ⟨_, SqL.of eum⟩, fun D hD => comp_walk (xs := um) (fun k ys H' => Same H9 H' ∧ H' D = some (.lst ys) ∧ ys = ((ms.take k).map fun r => (r.length : Int)).map V.int ∧ k ≤ ms.length) (sz (by omega)) ⟨Same.new (Same.refl H9) hD _, upd_same, rfl, Nat.zero_le _⟩ (fun k ys H' hk h => ⟨SqL.of (h.1 _ _ eum), ?_⟩) (fun k v ys H' R R0 hx' h r r0 => ?_) (fun ys H' h => ?_)⟩
  · rw [h.2.2.1, List.length_map, List.length_map, List.length_take]; omega
  · obtain ⟨sm, hy, ey, hk⟩ := h
    obtain ⟨b, rr, rfl, hn, hb, _⟩ := hm9.at eum hx'
    have hlt : k < ms.length := (List.getElem?_eq_some_iff.mp hn).1
    refine ⟨Ext.set rfl, ttN (iteT ⟨_, rfl, b, _, rfl, .inl (SqL.of (sm _ _ hb)), r _ _ hy ⟨sm.upd hD _, upd_same, ?_, hlt⟩⟩)⟩
    rw [List.take_add_one, hn, List.map_append, List.map_append, ← ey, List.length_map]
    rfl
  obtain ⟨smD, hyD, eyD, hkD⟩ := h
  rw [List.take_of_length_le (by omega)] at eyD
  rw [eyD] at hyD
  refine ⟨D, _, rfl, SqL.of hyD, ?_⟩
  rw [sum_lens]
  generalize H' = HD at smD hyD ⊢
  refine ⟨_, rfl, ?_⟩
  refine ⟨fun σ H' => σ = [some (.ref a), some (.ref pf), some (.int t), some (.ref pm), some (.bl (isRooms ms)), some (.ref x), some (.ref ch), some (.bl (isRooms ms)), some (.int (ms.flatten.length : Int)), some (.int (ms.flatten.length : Int))] ∧ Same HD H', ?_, ?_⟩
  · refine ⟨_, rfl, _, rfl, ite2 (fun _ => ?_) (fun _ => ⟨rfl, Same.refl HD⟩)⟩
    exact ⟨_, rfl, x, dx, fsx, rfl, smD _ _ hx9, f2', _, rfl, x, ch, Hx1, ms, rfl, hc9.same smD, by omega, fun HE sE => ⟨rfl, sE⟩⟩
  rintro σ HE ⟨rfl, sE⟩
  have sDE := smD.trans sE
  have hxE := sDE _ _ hx9
  have hcE := hc9.same sDE
  have hmE := hm9.same sDE
  have hfE := hf9.same sDE
  refine ⟨_, rfl, _, _, _, _, _, rfl, relTy, .int _, kit_int_int, _, rfl, iteF ⟨_, rfl, _, _, _, _, _, rfl, relTy, .int _, kit_int_bool, _, rfl, iteF ⟨_, rfl, _, rfl, rfl, _, rfl, iteNS rfl ?_⟩⟩⟩
  refine ⟨_, rfl, _, rfl, 2, _, by decide, hcE.eqD hmE (Ne.symm ncm), ⟨ch, pm, rfl, rfl, Ne.symm ncm⟩, _, rfl, iteF ?_⟩
  refine ⟨_, rfl, x, dx, fsx, rfl, hxE, f1, _, rfl, x, pf, H, ws, rfl, hfE, by omega, by omega, fun r hr => by have := ln.2 r hr; omega, fun HA sA => ⟨true, rfl, _, rfl, ?_⟩⟩
  rw [good]
  refine iteNS rfl ?_
  have hxA := sA _ _ hxE
  have hcA := hcE.same sA
  obtain ⟨uc, euc, luc⟩ := hcA.len
  refine ⟨_, rfl, .inl ⟨rfl, _, SqL.of euc⟩, Nat.zero_le _, fun tz htz => ?_⟩
  have sz_ := Same.new (Same.refl HA) htz (.lst [])
  refine ⟨ch, _, _, rfl, rfl, sz_ _ _ euc, sz' (by omega), ?_⟩
  have nxc : x ≠ ch := ne_of hxA euc (by intro z; cases z)
  have f0z : Hx1 tz = none := ((s7.trans (s8.trans (s9.trans (sDE.trans sA))))).free htz
  have lz := hcA.push euc sz_ htz (ns := []) upd_same f0z
  refine ⟨_, rfl, x, dx, fsx, rfl, (upd_ne nxc).trans (sz_ _ _ hxA), f1, _, rfl, x, ch, Hx1, ms ++ [[]], rfl, lz, (by simp; omega), (by rw [List.flatten_append, List.length_append]; show ms.flatten.length + 0 < 128; omega), (fun r hr => by
    rcases List.mem_append.mp hr with w | w
    · exact rb r w
    · have e : r = [] := by simpa using w
      rw [e]; decide), fun HC sC => ⟨false, rfl, ?_⟩⟩
  have last : ∀ b : Bool, b = true → Q (.bl b) HC := fun b e => by rw [e]; exact q _
  refine last _ ?_
  rw [isRooms_snoc ms]
  exact decide_eq_true rfl
end
noncomputable def spL (K : PySem.W.Frag) : Sp := fun vs H Q _ => ∃ (a : Addr) (ns : List Int), vs = [.ref a] ∧ SqL K H a (ns.map V.int) ∧ ns.length ≤ 63 ∧ ∀ H', Q (.bl true) H'
theorem lenAll1 {P : List Value → Prop} (h : ∀ a0 : Value, P [a0]) : ∀ us : List Value, us.length = 1 → P us
  | [a0], _ => h a0
theorem lenAll2 {P : List Value → Prop} (h : ∀ a0 a1 : Value, P [a0, a1]) : ∀ us : List Value, us.length = 2 → P us
  | [a0, a1], _ => h a0 a1
theorem lenAll3 {P : List Value → Prop} (h : ∀ a0 a1 a2 : Value, P [a0, a1, a2]) : ∀ us : List Value, us.length = 3 → P us
  | [a0, a1, a2], _ => h a0 a1 a2
theorem lenAll4 {P : List Value → Prop} (h : ∀ a0 a1 a2 a3 : Value, P [a0, a1, a2, a3]) : ∀ us : List Value, us.length = 4 → P us
  | [a0, a1, a2, a3], _ => h a0 a1 a2 a3
theorem all_mk {l : PySem.W.OpenLaw} {w : World} {K : PySem.W.Frag} {h : Heap} {mg : Str → Option Value} {fa : Addr} (X : K.In h) (G : h.Ns mainGlobals mg) (hfa : mg "law" = some (.ref fa)) {C_Rooms : Addr} {C_SplitFamily : Addr} {C_Family : Addr}
    {f1 : Addr} {od1 an1 : Option Addr} {sl1 : Array (Option Value)} {oc1 kV1 dc1 pm1 cd1 ct1 : Value}
    {f2 : Addr} {od2 an2 : Option Addr} {sl2 : Array (Option Value)} {oc2 kV2 dc2 pm2 cd2 ct2 : Value}
    {f3 : Addr} {od3 an3 : Option Addr} {sl3 : Array (Option Value)} {oc3 kV3 dc3 pm3 cd3 ct3 : Value}
    {f4 : Addr} {od4 an4 : Option Addr} {sl4 : Array (Option Value)} {oc4 kV4 dc4 pm4 cd4 ct4 : Value}
    {f5 : Addr} {od5 an5 : Option Addr} {sl5 : Array (Option Value)} {oc5 kV5 dc5 pm5 cd5 ct5 : Value}
    {f6 : Addr} {od6 an6 : Option Addr} {sl6 : Array (Option Value)} {oc6 kV6 dc6 pm6 cd6 ct6 : Value}
    {f7 : Addr} {od7 an7 : Option Addr} {sl7 : Array (Option Value)} {oc7 kV7 dc7 pm7 cd7 ct7 : Value}
    {f8 : Addr} {od8 an8 : Option Addr} {sl8 : Array (Option Value)} {oc8 kV8 dc8 pm8 cd8 ct8 : Value}
    {f9 : Addr} {od9 an9 : Option Addr} {sl9 : Array (Option Value)} {oc9 kV9 dc9 pm9 cd9 ct9 : Value}
    {f10 : Addr} {od10 an10 : Option Addr} {sl10 : Array (Option Value)} {oc10 kV10 dc10 pm10 cd10 ct10 : Value}
    {f11 : Addr} {od11 an11 : Option Addr} {sl11 : Array (Option Value)} {oc11 kV11 dc11 pm11 cd11 ct11 : Value}
    {f12 : Addr} {od12 an12 : Option Addr} {sl12 : Array (Option Value)} {oc12 kV12 dc12 pm12 cd12 ct12 : Value}
    {f13 : Addr} {od13 an13 : Option Addr} {sl13 : Array (Option Value)} {oc13 kV13 dc13 pm13 cd13 ct13 : Value}
    {f14 : Addr} {od14 an14 : Option Addr} {sl14 : Array (Option Value)} {oc14 kV14 dc14 pm14 cd14 ct14 : Value}
    {f15 : Addr} {od15 an15 : Option Addr} {sl15 : Array (Option Value)} {oc15 kV15 dc15 pm15 cd15 ct15 : Value}
    {f16 : Addr} {od16 an16 : Option Addr} {sl16 : Array (Option Value)} {oc16 kV16 dc16 pm16 cd16 ct16 : Value}
    {f17 : Addr} {od17 an17 : Option Addr} {sl17 : Array (Option Value)} {oc17 kV17 dc17 pm17 cd17 ct17 : Value}
    {f18 : Addr} {od18 an18 : Option Addr} {sl18 : Array (Option Value)} {oc18 kV18 dc18 pm18 cd18 ct18 : Value}
    {f19 : Addr} {od19 an19 : Option Addr} {sl19 : Array (Option Value)} {oc19 kV19 dc19 pm19 cd19 ct19 : Value}
    {f20 : Addr} {od20 an20 : Option Addr} {sl20 : Array (Option Value)} {oc20 kV20 dc20 pm20 cd20 ct20 : Value}
    {f21 : Addr} {od21 an21 : Option Addr} {sl21 : Array (Option Value)} {oc21 kV21 dc21 pm21 cd21 ct21 : Value}
    {f22 : Addr} {od22 an22 : Option Addr} {sl22 : Array (Option Value)} {oc22 kV22 dc22 pm22 cd22 ct22 : Value}
    {f23 : Addr} {od23 an23 : Option Addr} {sl23 : Array (Option Value)} {oc23 kV23 dc23 pm23 cd23 ct23 : Value}
    {f24 : Addr} {od24 an24 : Option Addr} {sl24 : Array (Option Value)} {oc24 kV24 dc24 pm24 cd24 ct24 : Value}
    (nc_Rooms : PySem.W.nsIn K mainGlobals "Rooms" = some (some (.ref C_Rooms)))
    (nc_SplitFamily : PySem.W.nsIn K mainGlobals "SplitFamily" = some (some (.ref C_SplitFamily)))
    (nc_Family : PySem.W.nsIn K mainGlobals "Family" = some (some (.ref C_Family)))
    (a_Rooms_is_one : PySem.W.findIn K (.ref C_Rooms) "is_one" = some (some (.ref f18)))
    (a_Rooms_size_of : PySem.W.findIn K (.ref C_Rooms) "size_of" = some (some (.ref f23)))
    (a_Rooms_number_of : PySem.W.findIn K (.ref C_Rooms) "number_of" = some (some (.ref f20)))
    (a_Rooms_next_of : PySem.W.findIn K (.ref C_Rooms) "next_of" = some (some (.ref f21)))
    (a_Rooms_refuse_other : PySem.W.findIn K (.ref C_Rooms) "refuse_other" = some (some (.ref f19)))
    (ai_Rooms : PySem.W.findIn K (.ref C_Rooms) "__init__" = some (some (.ref f13)))
    (ch_SplitFamily___init___Rooms : PySem.W.findCls K (.ref C_SplitFamily) (.type "type") "__init__" = some (.val (.ref f12)))
    (cg_SplitFamily___init___Rooms : PySem.W.specialIn K (.ref C_SplitFamily) "__getattribute__" = some (some (.builtin "type.__getattribute__")))
    (cr_SplitFamily___init___Rooms : PySem.W.readsIn K C_SplitFamily (.type "type") = true)
    (ch_Family___init___Rooms : PySem.W.findCls K (.ref C_Family) (.type "type") "__init__" = some (.val (.ref f11)))
    (cg_Family___init___Rooms : PySem.W.specialIn K (.ref C_Family) "__getattribute__" = some (some (.builtin "type.__getattribute__")))
    (cr_Family___init___Rooms : PySem.W.readsIn K C_Family (.type "type") = true)
    (a1 : PySem.W.nsIn K mainGlobals "_law_draws" = some (some (.ref f1)))
    (l1 : K.lookup f1 = some ⟨oc1, od1, .func (PySem.W.fnOf "_law_draws" "_law_draws" (defArgs s__law_draws) (defBody s__law_draws) (defScope s__law_draws) .none kV1 dc1 pm1 an1 cd1 ct1), sl1⟩)
    (c1 : PySem.W.codeIn K cd1 "_law_draws" = true)
    (k1 : PySem.W.keepIn K (.ref f1) = true)
    (a2 : PySem.W.nsIn K mainGlobals "_law_rooms" = some (some (.ref f2)))
    (l2 : K.lookup f2 = some ⟨oc2, od2, .func (PySem.W.fnOf "_law_rooms" "_law_rooms" (defArgs s__law_rooms) (defBody s__law_rooms) (defScope s__law_rooms) .none kV2 dc2 pm2 an2 cd2 ct2), sl2⟩)
    (c2 : PySem.W.codeIn K cd2 "_law_rooms" = true)
    (k2 : PySem.W.keepIn K (.ref f2) = true)
    (a3 : PySem.W.nsIn K mainGlobals "_law_cell_at" = some (some (.ref f3)))
    (l3 : K.lookup f3 = some ⟨oc3, od3, .func (PySem.W.fnOf "_law_cell_at" "_law_cell_at" (defArgs s__law_cell_at) (defBody s__law_cell_at) (defScope s__law_cell_at) .none kV3 dc3 pm3 an3 cd3 ct3), sl3⟩)
    (c3 : PySem.W.codeIn K cd3 "_law_cell_at" = true)
    (k3 : PySem.W.keepIn K (.ref f3) = true)
    (a4 : PySem.W.nsIn K mainGlobals "_law_copy" = some (some (.ref f4)))
    (l4 : K.lookup f4 = some ⟨oc4, od4, .func (PySem.W.fnOf "_law_copy" "_law_copy" (defArgs s__law_copy) (defBody s__law_copy) (defScope s__law_copy) .none kV4 dc4 pm4 an4 cd4 ct4), sl4⟩)
    (c4 : PySem.W.codeIn K cd4 "_law_copy" = true)
    (k4 : PySem.W.keepIn K (.ref f4) = true)
    (a5 : PySem.W.nsIn K mainGlobals "_law_moved" = some (some (.ref f5)))
    (l5 : K.lookup f5 = some ⟨oc5, od5, .func (PySem.W.fnOf "_law_moved" "_law_moved" (defArgs s__law_moved) (defBody s__law_moved) (defScope s__law_moved) .none kV5 dc5 pm5 an5 cd5 ct5), sl5⟩)
    (c5 : PySem.W.codeIn K cd5 "_law_moved" = true)
    (k5 : PySem.W.keepIn K (.ref f5) = true)
    (a6 : PySem.W.nsIn K mainGlobals "_law_number" = some (some (.ref f6)))
    (l6 : K.lookup f6 = some ⟨oc6, od6, .func (PySem.W.fnOf "_law_number" "_law_number" (defArgs s__law_number) (defBody s__law_number) (defScope s__law_number) .none kV6 dc6 pm6 an6 cd6 ct6), sl6⟩)
    (c6 : PySem.W.codeIn K cd6 "_law_number" = true)
    (k6 : PySem.W.keepIn K (.ref f6) = true)
    (a7 : PySem.W.nsIn K mainGlobals "_law_changed" = some (some (.ref f7)))
    (l7 : K.lookup f7 = some ⟨oc7, od7, .func (PySem.W.fnOf "_law_changed" "_law_changed" (defArgs s__law_changed) (defBody s__law_changed) (defScope s__law_changed) .none kV7 dc7 pm7 an7 cd7 ct7), sl7⟩)
    (c7 : PySem.W.codeIn K cd7 "_law_changed" = true)
    (k7 : PySem.W.keepIn K (.ref f7) = true)
    (a8 : PySem.W.nsIn K mainGlobals "_law_dealt" = some (some (.ref f8)))
    (l8 : K.lookup f8 = some ⟨oc8, od8, .func (PySem.W.fnOf "_law_dealt" "_law_dealt" (defArgs s__law_dealt) (defBody s__law_dealt) (defScope s__law_dealt) .none kV8 dc8 pm8 an8 cd8 ct8), sl8⟩)
    (c8 : PySem.W.codeIn K cd8 "_law_dealt" = true)
    (k8 : PySem.W.keepIn K (.ref f8) = true)
    (a9 : PySem.W.nsIn K mainGlobals "_law_homes" = some (some (.ref f9)))
    (l9 : K.lookup f9 = some ⟨oc9, od9, .func (PySem.W.fnOf "_law_homes" "_law_homes" (defArgs s__law_homes) (defBody s__law_homes) (defScope s__law_homes) .none kV9 dc9 pm9 an9 cd9 ct9), sl9⟩)
    (c9 : PySem.W.codeIn K cd9 "_law_homes" = true)
    (k9 : PySem.W.keepIn K (.ref f9) = true)
    (a10 : PySem.W.nsIn K mainGlobals "_law_stand" = some (some (.ref f10)))
    (l10 : K.lookup f10 = some ⟨oc10, od10, .func (PySem.W.fnOf "_law_stand" "_law_stand" (defArgs s__law_stand) (defBody s__law_stand) (defScope s__law_stand) .none kV10 dc10 pm10 an10 cd10 ct10), sl10⟩)
    (c10 : PySem.W.codeIn K cd10 "_law_stand" = true)
    (k10 : PySem.W.keepIn K (.ref f10) = true)
    (l11 : K.lookup f11 = some ⟨oc11, od11, .func (PySem.W.fnOf "__init__" "Family.__init__" (defArgs s_Rooms__Family___init__) (defBody s_Rooms__Family___init__) (defScope s_Rooms__Family___init__) .none kV11 dc11 pm11 an11 cd11 ct11), sl11⟩)
    (c11 : PySem.W.codeIn K cd11 "Family.__init__" = true)
    (k11 : PySem.W.keepIn K (.ref f11) = true)
    (i11 : PySem.W.isFn K (.ref f11) = true)
    (l12 : K.lookup f12 = some ⟨oc12, od12, .func (PySem.W.fnOf "__init__" "SplitFamily.__init__" (defArgs s_Rooms__SplitFamily___init__) (defBody s_Rooms__SplitFamily___init__) (defScope s_Rooms__SplitFamily___init__) .none kV12 dc12 pm12 an12 cd12 ct12), sl12⟩)
    (c12 : PySem.W.codeIn K cd12 "SplitFamily.__init__" = true)
    (k12 : PySem.W.keepIn K (.ref f12) = true)
    (i12 : PySem.W.isFn K (.ref f12) = true)
    (l13 : K.lookup f13 = some ⟨oc13, od13, .func (PySem.W.fnOf "__init__" "Rooms.__init__" (defArgs s_Rooms____init__) (defBody s_Rooms____init__) (defScope s_Rooms____init__) .none kV13 dc13 pm13 an13 cd13 ct13), sl13⟩)
    (c13 : PySem.W.codeIn K cd13 "Rooms.__init__" = true)
    (k13 : PySem.W.keepIn K (.ref f13) = true)
    (i13 : PySem.W.isFn K (.ref f13) = true)
    (a14 : PySem.W.nsIn K mainGlobals "each_once" = some (some (.ref f14)))
    (l14 : K.lookup f14 = some ⟨oc14, od14, .func (PySem.W.fnOf "each_once" "each_once" (defArgs s_each_once) (defBody s_each_once) (defScope s_each_once) .none kV14 dc14 pm14 an14 cd14 ct14), sl14⟩)
    (c14 : PySem.W.codeIn K cd14 "each_once" = true)
    (k14 : PySem.W.keepIn K (.ref f14) = true)
    (a15 : PySem.W.nsIn K mainGlobals "flat" = some (some (.ref f15)))
    (l15 : K.lookup f15 = some ⟨oc15, od15, .func (PySem.W.fnOf "flat" "flat" (defArgs s_flat) (defBody s_flat) (defScope s_flat) .none kV15 dc15 pm15 an15 cd15 ct15), sl15⟩)
    (c15 : PySem.W.codeIn K cd15 "flat" = true)
    (k15 : PySem.W.keepIn K (.ref f15) = true)
    (a16 : PySem.W.nsIn K mainGlobals "any_cross" = some (some (.ref f16)))
    (l16 : K.lookup f16 = some ⟨oc16, od16, .func (PySem.W.fnOf "any_cross" "any_cross" (defArgs s_any_cross) (defBody s_any_cross) (defScope s_any_cross) .none kV16 dc16 pm16 an16 cd16 ct16), sl16⟩)
    (c16 : PySem.W.codeIn K cd16 "any_cross" = true)
    (k16 : PySem.W.keepIn K (.ref f16) = true)
    (a17 : PySem.W.nsIn K mainGlobals "neighbours" = some (some (.ref f17)))
    (l17 : K.lookup f17 = some ⟨oc17, od17, .func (PySem.W.fnOf "neighbours" "neighbours" (defArgs s_neighbours) (defBody s_neighbours) (defScope s_neighbours) .none kV17 dc17 pm17 an17 cd17 ct17), sl17⟩)
    (c17 : PySem.W.codeIn K cd17 "neighbours" = true)
    (k17 : PySem.W.keepIn K (.ref f17) = true)
    (l18 : K.lookup f18 = some ⟨oc18, od18, .func (PySem.W.fnOf "is_one" "Rooms.is_one" (defArgs s_Rooms__is_one) (defBody s_Rooms__is_one) (defScope s_Rooms__is_one) .none kV18 dc18 pm18 an18 cd18 ct18), sl18⟩)
    (c18 : PySem.W.codeIn K cd18 "Rooms.is_one" = true)
    (k18 : PySem.W.keepIn K (.ref f18) = true)
    (i18 : PySem.W.isFn K (.ref f18) = true)
    (l19 : K.lookup f19 = some ⟨oc19, od19, .func (PySem.W.fnOf "refuse_other" "Family.refuse_other" (defArgs s_Rooms__Family_refuse_other) (defBody s_Rooms__Family_refuse_other) (defScope s_Rooms__Family_refuse_other) .none kV19 dc19 pm19 an19 cd19 ct19), sl19⟩)
    (c19 : PySem.W.codeIn K cd19 "Family.refuse_other" = true)
    (k19 : PySem.W.keepIn K (.ref f19) = true)
    (i19 : PySem.W.isFn K (.ref f19) = true)
    (l20 : K.lookup f20 = some ⟨oc20, od20, .func (PySem.W.fnOf "number_of" "Family.number_of" (defArgs s_Rooms__Family_number_of) (defBody s_Rooms__Family_number_of) (defScope s_Rooms__Family_number_of) .none kV20 dc20 pm20 an20 cd20 ct20), sl20⟩)
    (c20 : PySem.W.codeIn K cd20 "Family.number_of" = true)
    (k20 : PySem.W.keepIn K (.ref f20) = true)
    (i20 : PySem.W.isFn K (.ref f20) = true)
    (l21 : K.lookup f21 = some ⟨oc21, od21, .func (PySem.W.fnOf "next_of" "Family.next_of" (defArgs s_Rooms__Family_next_of) (defBody s_Rooms__Family_next_of) (defScope s_Rooms__Family_next_of) .none kV21 dc21 pm21 an21 cd21 ct21), sl21⟩)
    (c21 : PySem.W.codeIn K cd21 "Family.next_of" = true)
    (k21 : PySem.W.keepIn K (.ref f21) = true)
    (i21 : PySem.W.isFn K (.ref f21) = true)
    (a22 : PySem.W.nsIn K mainGlobals "_law_refused" = some (some (.ref f22)))
    (l22 : K.lookup f22 = some ⟨oc22, od22, .func (PySem.W.fnOf "_law_refused" "_law_refused" (defArgs s__law_refused) (defBody s__law_refused) (defScope s__law_refused) .none kV22 dc22 pm22 an22 cd22 ct22), sl22⟩)
    (c22 : PySem.W.codeIn K cd22 "_law_refused" = true)
    (k22 : PySem.W.keepIn K (.ref f22) = true)
    (l23 : K.lookup f23 = some ⟨oc23, od23, .func (PySem.W.fnOf "size_of" "Rooms.size_of" (defArgs s_Rooms__size_of) (defBody s_Rooms__size_of) (defScope s_Rooms__size_of) .none kV23 dc23 pm23 an23 cd23 ct23), sl23⟩)
    (c23 : PySem.W.codeIn K cd23 "Rooms.size_of" = true)
    (k23 : PySem.W.keepIn K (.ref f23) = true)
    (i23 : PySem.W.isFn K (.ref f23) = true)
    (a24 : PySem.W.nsIn K mainGlobals "law" = some (some (.ref f24)))
    (l24 : K.lookup f24 = some ⟨oc24, od24, .func (PySem.W.fnOf "law" "law" (defArgs s_law) (defBody s_law) (defScope s_law) .none kV24 dc24 pm24 an24 cd24 ct24), sl24⟩)
    (c24 : PySem.W.codeIn K cd24 "law" = true)
    (k24 : PySem.W.keepIn K (.ref f24) = true)
    (pg_Rooms : PySem.W.plainGet K C_Rooms Str.empty = true)
    (hd_Rooms : PySem.W.hasDictIn K C_Rooms = true)
    (po_Rooms : PySem.W.plainOver K C_Rooms = true)
    (sa_Rooms : PySem.W.findIn K (.ref C_Rooms) "__setattr__" = some (some (.builtin "object.__setattr__")))
    (mk_Rooms : PySem.W.makesIn K C_Rooms = true)
    (kc_Rooms : PySem.W.keepIn K (.ref C_Rooms) = true)
    (na_Rooms_word : PySem.W.findIn K (.ref C_Rooms) "word" = some none)
    (na_Rooms_least : PySem.W.findIn K (.ref C_Rooms) "least" = some none)
    (z_range : PySem.W.nsIn K mainGlobals "range" = some none)
    (z_len : PySem.W.nsIn K mainGlobals "len" = some none)
    (z_min : PySem.W.nsIn K mainGlobals "min" = some none)
    (z_list : PySem.W.nsIn K mainGlobals "list" = some none)
    (z_sorted : PySem.W.nsIn K mainGlobals "sorted" = some none)
    (z_zip : PySem.W.nsIn K mainGlobals "zip" = some none)
    (z_sum : PySem.W.nsIn K mainGlobals "sum" = some none)
    (z_isinstance : PySem.W.nsIn K mainGlobals "isinstance" = some none)
    (z_bool : PySem.W.nsIn K mainGlobals "bool" = some none)
    (z_int : PySem.W.nsIn K mainGlobals "int" = some none)
    {c_thing : Addr}
    (n_thing : PySem.W.nsIn K mainGlobals "NoThing" = some (some (.ref c_thing)))
    (t_err : errTab1 K ⟨c_thing⟩ = true) :
    ∃ fd : FuncData, (∀ (s : Shared) (v : Value), BindsTo s fd ⟨[v], []⟩ [("_law_script", v)]) ∧ ∀ base : Heap, K.In base → base.Ns mainGlobals mg → FnOk l.prog w K mg base CX0 8 fa fd ["_law_script"] (spL K) := by
  have e := hfa.symm.trans (PySem.W.mg_of X G a24)
  cases e
  have EO : Er1Ok K mg ⟨c_thing⟩ := err1Ok t_err (PySem.W.mg_of X G n_thing)
  have CA : ClOk K mg ⟨C_Rooms, C_SplitFamily, C_Family, f11, f12, f13, f18, f19, f20, f21, f23⟩ := ⟨PySem.W.mg_of X G nc_Rooms, PySem.W.mg_of X G nc_SplitFamily, PySem.W.mg_of X G nc_Family, ⟨pg_Rooms, hd_Rooms, po_Rooms, sa_Rooms⟩, ⟨a_Rooms_is_one, i18, k18⟩, ⟨a_Rooms_size_of, i23, k23⟩, ⟨a_Rooms_number_of, i20, k20⟩, ⟨a_Rooms_next_of, i21, k21⟩, ⟨a_Rooms_refuse_other, i19, k19⟩, ⟨mk_Rooms, ai_Rooms, i13, kc_Rooms⟩, ⟨cg_SplitFamily___init___Rooms, cr_SplitFamily___init___Rooms, ch_SplitFamily___init___Rooms, k12⟩, ⟨cg_Family___init___Rooms, cr_Family___init___Rooms, ch_Family___init___Rooms, k11⟩, na_Rooms_word, na_Rooms_least⟩
  have F1 := fun_mk (st := s__law_draws) l1 c1 k1
  have b1 := F1.binds (ps := ["_law_script", "_law_turn", "_law_many"]) fun _ _ _ _ _ _ => lenAll3 (fun _ _ _ => rfl)
  have F2 := fun_mk (st := s__law_rooms) l2 c2 k2
  have b2 := F2.binds (ps := ["_law_script", "_law_size", "_law_turn"]) fun _ _ _ _ _ _ => lenAll3 (fun _ _ _ => rfl)
  have F3 := fun_mk (st := s__law_cell_at) l3 c3 k3
  have b3 := F3.binds (ps := ["_law_script", "_law_k"]) fun _ _ _ _ _ _ => lenAll2 (fun _ _ => rfl)
  have F4 := fun_mk (st := s__law_copy) l4 c4 k4
  have b4 := F4.binds (ps := ["_law_rooms_here"]) fun _ _ _ _ _ _ => lenAll1 (fun _ => rfl)
  have F5 := fun_mk (st := s__law_moved) l5 c5 k5
  have b5 := F5.binds (ps := ["_law_rooms_here", "_law_at", "_law_place", "_law_to"]) fun _ _ _ _ _ _ => lenAll4 (fun _ _ _ _ => rfl)
  have F6 := fun_mk (st := s__law_number) l6 c6 k6
  have b6 := F6.binds (ps := ["_law_draw", "_law_cell", "_law_top"]) fun _ _ _ _ _ _ => lenAll3 (fun _ _ _ => rfl)
  have F7 := fun_mk (st := s__law_changed) l7 c7 k7
  have b7 := F7.binds (ps := ["_law_rooms_here", "_law_draws_here", "_law_far", "_law_turn"]) fun _ _ _ _ _ _ => lenAll4 (fun _ _ _ _ => rfl)
  have F8 := fun_mk (st := s__law_dealt) l8 c8 k8
  have b8 := F8.binds (ps := ["_law_script"]) fun _ _ _ _ _ _ => lenAll1 (fun _ => rfl)
  have F9 := fun_mk (st := s__law_homes) l9 c9 k9
  have b9 := F9.binds (ps := ["_law_rooms_here"]) fun _ _ _ _ _ _ => lenAll1 (fun _ => rfl)
  have F10 := fun_mk (st := s__law_stand) l10 c10 k10
  have b10 := F10.binds (ps := ["_law_rooms_here"]) fun _ _ _ _ _ _ => lenAll1 (fun _ => rfl)
  have F11 := fun_mk (st := s_Rooms__Family___init__) l11 c11 k11
  have b11 := F11.binds (ps := ["self", "word", "least"]) fun _ _ _ _ _ _ => lenAll3 (fun _ _ _ => rfl)
  have F12 := fun_mk (st := s_Rooms__SplitFamily___init__) l12 c12 k12
  have b12 := F12.binds (ps := ["self", "word"]) fun _ _ _ _ _ _ => lenAll2 (fun _ _ => rfl)
  have F13 := fun_mk (st := s_Rooms____init__) l13 c13 k13
  have b13 := F13.binds (ps := ["self"]) fun _ _ _ _ _ _ => lenAll1 (fun _ => rfl)
  have F14 := fun_mk (st := s_each_once) l14 c14 k14
  have b14 := F14.binds (ps := ["numbers"]) fun _ _ _ _ _ _ => lenAll1 (fun _ => rfl)
  have F15 := fun_mk (st := s_flat) l15 c15 k15
  have b15 := F15.binds (ps := ["rows"]) fun _ _ _ _ _ _ => lenAll1 (fun _ => rfl)
  have F16 := fun_mk (st := s_any_cross) l16 c16 k16
  have b16 := F16.binds (ps := ["pairs"]) fun _ _ _ _ _ _ => lenAll1 (fun _ => rfl)
  have F17 := fun_mk (st := s_neighbours) l17 c17 k17
  have b17 := F17.binds (ps := ["rooms"]) fun _ _ _ _ _ _ => lenAll1 (fun _ => rfl)
  have F18 := fun_mk (st := s_Rooms__is_one) l18 c18 k18
  have b18 := F18.binds (ps := ["self", "thing"]) fun _ _ _ _ _ _ => lenAll2 (fun _ _ => rfl)
  have F19 := fun_mk (st := s_Rooms__Family_refuse_other) l19 c19 k19
  have b19 := F19.binds (ps := ["self", "thing"]) fun _ _ _ _ _ _ => lenAll2 (fun _ _ => rfl)
  have F20 := fun_mk (st := s_Rooms__Family_number_of) l20 c20 k20
  have b20 := F20.binds (ps := ["self", "thing"]) fun _ _ _ _ _ _ => lenAll2 (fun _ _ => rfl)
  have F21 := fun_mk (st := s_Rooms__Family_next_of) l21 c21 k21
  have b21 := F21.binds (ps := ["self", "thing"]) fun _ _ _ _ _ _ => lenAll2 (fun _ _ => rfl)
  have F22 := fun_mk (st := s__law_refused) l22 c22 k22
  have b22 := F22.binds (ps := ["_law_kin", "_law_rooms_here"]) fun _ _ _ _ _ _ => lenAll2 (fun _ _ => rfl)
  have F23 := fun_mk (st := s_Rooms__size_of) l23 c23 k23
  have b23 := F23.binds (ps := ["self", "thing"]) fun _ _ _ _ _ _ => lenAll2 (fun _ _ => rfl)
  have F24 := fun_mk (st := s_law) l24 c24 k24
  have m_range := PySem.W.mg_none_of X G z_range
  have m_len := PySem.W.mg_none_of X G z_len
  have m_min := PySem.W.mg_none_of X G z_min
  have m_list := PySem.W.mg_none_of X G z_list
  have m_sorted := PySem.W.mg_none_of X G z_sorted
  have m_zip := PySem.W.mg_none_of X G z_zip
  have m_sum := PySem.W.mg_none_of X G z_sum
  have m_isinstance := PySem.W.mg_none_of X G z_isinstance
  have m_bool := PySem.W.mg_none_of X G z_bool
  have m_int := PySem.W.mg_none_of X G z_int
  refine ⟨PySem.W.fnOf "law" "law" (defArgs s_law) (defBody s_law) (defScope s_law) .none kV24 dc24 pm24 an24 cd24 ct24, fun s v => .of_eq rfl, fun base _ _ => ?_⟩
  have d__law_draws : Def l.prog w K mg base "_law_draws" ["_law_script", "_law_turn", "_law_many"] 1 (sp__law_draws K _) f1 _ := ⟨(ok__law_draws (P := l.prog) (w := w) (base := base) EO CA F1 m_range m_len).up, b1, k1, PySem.W.mg_of X G a1⟩
  have d__law_rooms : Def l.prog w K mg base "_law_rooms" ["_law_script", "_law_size", "_law_turn"] 2 (sp__law_rooms K _) f2 _ := ⟨(ok__law_rooms (P := l.prog) (w := w) (base := base) EO CA F2 d__law_draws m_range m_min m_len).up, b2, k2, PySem.W.mg_of X G a2⟩
  have d__law_cell_at : Def l.prog w K mg base "_law_cell_at" ["_law_script", "_law_k"] 1 (sp__law_cell_at K _) f3 _ := ⟨(ok__law_cell_at (P := l.prog) (w := w) (base := base) EO CA F3 m_len).up, b3, k3, PySem.W.mg_of X G a3⟩
  have d__law_copy : Def l.prog w K mg base "_law_copy" ["_law_rooms_here"] 1 (sp__law_copy K _) f4 _ := ⟨(ok__law_copy (P := l.prog) (w := w) (base := base) EO CA F4 m_list).up, b4, k4, PySem.W.mg_of X G a4⟩
  have d__law_moved : Def l.prog w K mg base "_law_moved" ["_law_rooms_here", "_law_at", "_law_place", "_law_to"] 1 (sp__law_moved K _) f5 _ := ⟨(ok__law_moved (P := l.prog) (w := w) (base := base) EO CA F5 m_sorted m_len).up, b5, k5, PySem.W.mg_of X G a5⟩
  have d__law_number : Def l.prog w K mg base "_law_number" ["_law_draw", "_law_cell", "_law_top"] 1 (sp__law_number K _) f6 _ := ⟨(ok__law_number (P := l.prog) (w := w) (base := base) EO CA F6).up, b6, k6, PySem.W.mg_of X G a6⟩
  have d__law_changed : Def l.prog w K mg base "_law_changed" ["_law_rooms_here", "_law_draws_here", "_law_far", "_law_turn"] 2 (sp__law_changed K _) f7 _ := ⟨(ok__law_changed (P := l.prog) (w := w) (base := base) EO CA F7 d__law_moved d__law_number m_len m_list m_sorted).up, b7, k7, PySem.W.mg_of X G a7⟩
  have d__law_dealt : Def l.prog w K mg base "_law_dealt" ["_law_script"] 2 (sp__law_dealt K _) f8 _ := ⟨(ok__law_dealt (P := l.prog) (w := w) (base := base) EO CA F8 d__law_draws m_range m_len m_sorted).up, b8, k8, PySem.W.mg_of X G a8⟩
  have d__law_homes : Def l.prog w K mg base "_law_homes" ["_law_rooms_here"] 1 (sp__law_homes K _) f9 _ := ⟨(ok__law_homes (P := l.prog) (w := w) (base := base) EO CA F9 m_range m_len).up, b9, k9, PySem.W.mg_of X G a9⟩
  have d__law_stand : Def l.prog w K mg base "_law_stand" ["_law_rooms_here"] 2 (sp__law_stand K _) f10 _ := ⟨(ok__law_stand (P := l.prog) (w := w) (base := base) EO CA F10 d__law_homes m_range m_len).up, b10, k10, PySem.W.mg_of X G a10⟩
  have d_Rooms__Family___init__ : MDef l.prog w K mg base ["self", "word", "least"] 1 (sp_Rooms__Family___init__ K _) f11 _ := ⟨(ok_Rooms__Family___init__ (P := l.prog) (w := w) (base := base) EO CA F11).up, b11⟩
  have d_Rooms__SplitFamily___init__ : MDef l.prog w K mg base ["self", "word"] 3 (sp_Rooms__SplitFamily___init__ K _) f12 _ := ⟨(ok_Rooms__SplitFamily___init__ (P := l.prog) (w := w) (base := base) EO CA F12 d_Rooms__Family___init__).up, b12⟩
  have d_Rooms____init__ : MDef l.prog w K mg base ["self"] 5 (sp_Rooms____init__ K _) f13 _ := ⟨(ok_Rooms____init__ (P := l.prog) (w := w) (base := base) EO CA F13 d_Rooms__SplitFamily___init__).up, b13⟩
  have d_each_once : Def l.prog w K mg base "each_once" ["numbers"] 1 (sp_each_once K _) f14 _ := ⟨(ok_each_once (P := l.prog) (w := w) (base := base) EO CA F14 m_sorted m_list m_range m_len).up, b14, k14, PySem.W.mg_of X G a14⟩
  have d_flat : Def l.prog w K mg base "flat" ["rows"] 1 (sp_flat K _) f15 _ := ⟨(ok_flat (P := l.prog) (w := w) (base := base) EO CA F15).up, b15, k15, PySem.W.mg_of X G a15⟩
  have d_any_cross : Def l.prog w K mg base "any_cross" ["pairs"] 1 (sp_any_cross K _) f16 _ := ⟨(ok_any_cross (P := l.prog) (w := w) (base := base) EO CA F16).up, b16, k16, PySem.W.mg_of X G a16⟩
  have d_neighbours : Def l.prog w K mg base "neighbours" ["rooms"] 2 (sp_neighbours K _) f17 _ := ⟨(ok_neighbours (P := l.prog) (w := w) (base := base) EO CA F17 d_flat m_list m_zip).up, b17, k17, PySem.W.mg_of X G a17⟩
  have d_Rooms__is_one : MDef l.prog w K mg base ["self", "thing"] 3 (sp_Rooms__is_one K _) f18 _ := ⟨(ok_Rooms__is_one (P := l.prog) (w := w) (base := base) EO CA F18 d_each_once d_flat d_any_cross d_neighbours m_sorted).up, b18⟩
  have d_Rooms__Family_refuse_other : MDef l.prog w K mg base ["self", "thing"] 4 (sp_Rooms__Family_refuse_other K _ _) f19 _ := ⟨(ok_Rooms__Family_refuse_other (P := l.prog) (w := w) (base := base) EO CA F19 d_Rooms__is_one), b19⟩
  have d_Rooms__Family_number_of : MDef l.prog w K mg base ["self", "thing"] 5 (sp_Rooms__Family_number_of K _ _) f20 _ := ⟨(ok_Rooms__Family_number_of (P := l.prog) (w := w) (base := base) EO CA F20 d_Rooms__Family_refuse_other), b20⟩
  have d_Rooms__Family_next_of : MDef l.prog w K mg base ["self", "thing"] 6 (sp_Rooms__Family_next_of K _ _) f21 _ := ⟨(ok_Rooms__Family_next_of (P := l.prog) (w := w) (base := base) EO CA F21 d_Rooms__Family_number_of), b21⟩
  have d__law_refused : Def l.prog w K mg base "_law_refused" ["_law_kin", "_law_rooms_here"] 7 (sp__law_refused K _ _) f22 _ := ⟨(ok__law_refused (P := l.prog) (w := w) (base := base) EO CA F22 d_Rooms__Family_number_of d_Rooms__Family_next_of).up, b22, k22, PySem.W.mg_of X G a22⟩
  have d_Rooms__size_of : MDef l.prog w K mg base ["self", "thing"] 1 (sp_Rooms__size_of K _) f23 _ := ⟨(ok_Rooms__size_of (P := l.prog) (w := w) (base := base) EO CA F23 m_sum m_len).up, b23⟩
  exact ok_law (P := l.prog) (w := w) (base := base) EO CA F24 d__law_rooms d__law_cell_at d__law_copy d__law_changed d__law_draws d__law_dealt d__law_stand d_Rooms____init__ d_Rooms__is_one d__law_refused d_Rooms__size_of m_len m_isinstance m_bool m_sum m_int
theorem walk {l : PySem.W.OpenLaw} {q : Program} {loose : List Str} {XP : (Str → Option Value) → Heap → Prop} {YP : World → Heap → Prop} {d : DefRec} {K : Params → PySem.W.Frag} (hn : l.most = some 63) (hdf : d.params.defaults = [])
    (hY : ∀ (w : World) (h : Heap), YP w h → (K w.params).In h)
    (F : ∀ (w : World) (mg : Str → Option Value) (fa : Addr) (h : Heap), (K w.params).In h → h.Ns mainGlobals mg → mg d.name = some (.ref fa) →
      ∃ fd : FuncData, (∀ (s : Shared) (u : Value), BindsTo s fd ⟨[u], []⟩ [("_law_script", u)]) ∧ ∀ base : Heap, (K w.params).In base → base.Ns mainGlobals mg → FnOk l.prog w (K w.params) mg base CX0 8 fa fd ["_law_script"] (spL (K w.params))) :
    PySem.W.WalkO q loose XP YP l.row.toRowW d [] (fun f vs => PySem.call f vs) :=
  L2.walk_of (n := 63) (k := 8) (x := "_law_script") (CX := fun _ => CX0) (sp := fun w => spL (K w.params)) hn (by decide) hdf ⟨rfl, by decide, by decide⟩ hY F (fun _ _ a ns hl _ hS => ⟨a, ns, rfl, hS, hl, fun _ => rfl⟩) fun _ _ _ _ _ z => z
end Ck
open L2
namespace Ck
open PySem PySem.W PySem.Calls PyProof.Rows
noncomputable def hB : List Stmt := behindTheImports PySem.Challenge.pw_countkin_k16_rooms_looked_at
noncomputable def hE : Env := { scope := PySem.Challenge.pw_countkin_k16_rooms_looked_at.main.scope, locals := mainNs, globals := mainNs, cells := [], code := (.ref 13), frame := some 14 }
noncomputable def hC : Code := .body hB hE
noncomputable def hTree (P : Params) : BT := (.node (boot_o_0 P) (.node (boot_o_1 P) (.node (boot_o_3 P) (.node (boot_o_7 P) .nil .nil) (.node ⟨(.type "tuple"), none, (.seq #[] 0), #[]⟩ .nil .nil)) (.node (boot_o_5 P) (.node (boot_o_9 P) .nil .nil) (.node ⟨(.type "code"), none, (.fields #[(.str "<module>" 182), (.str "<module>" 183), (.str "/claim/cut.py" 184), (.int 1 0), (.int 0 0), (.int 0 0), (.int 0 0), (.int 0 0), (.ref 11), (.bool false), (.int 181 0), (.ref 12), .none, .none, .none, .none, (.int 185 0), (.int 1 0), (.str "/claim/cut.py" 186)]), #[]⟩ .nil .nil))) (.node (boot_o_2 P) (.node (boot_o_4 P) (.node (boot_o_8 P) .nil .nil) (.node ⟨.none, none, (.fields #[]), #[]⟩ .nil .nil)) (.node (boot_o_6 P) (.node (boot_o_10 P) .nil .nil) (.node ⟨(.type "frame"), none, .plain, #[(some (.ref 13)), (some (.ref 3)), (some (.ref 3)), none, (some (.str "__main__" 164)), none, (some (.ref 0))]⟩ .nil .nil))))
noncomputable def hS (w : World) (os : OsState) : SharedT := ⟨hTree w.params, 15, ({} : Life), Array.mk [], ⟨0, 0, 0, 0⟩, 187, os⟩
noncomputable def hQ : Program := { PySem.Challenge.pw_countkin_k16_rooms_looked_at with main := { PySem.Challenge.pw_countkin_k16_rooms_looked_at.main with body := [top 30] } }
noncomputable def hL : List Str := (Str.ofString "_wall" :: Str.ofString "raised_by" :: Str.ofString "flat" :: Str.ofString "each_once" :: Str.ofString "any_cross" :: Str.ofString "shares" :: Str.ofString "by_rule" :: Str.ofString "KinError" :: Str.ofString "NoThing" :: Str.ofString "Family" :: Str.ofString "SplitFamily" :: Str.ofString "Rooms" :: Str.ofString "neighbours" :: Str.ofString "_law_cell_at" :: Str.ofString "_law_draws" :: Str.ofString "_law_number" :: Str.ofString "_law_rooms" :: Str.ofString "_law_copy" :: Str.ofString "_law_dealt" :: Str.ofString "_law_moved" :: Str.ofString "_law_changed" :: Str.ofString "_law_homes" :: Str.ofString "_law_stand" :: Str.ofString "_law_refused" :: [])
noncomputable def hK : Params → Frag := fun P => (nat_lit 2, ⟨.none, none, (.dict #[] 0), #[]⟩) :: (nat_lit 3, ⟨(.type "dict"), none, (.dict #[⟨PyData.keyHash P "__name__", .str "__name__" 165, (.str "law_countkin_k16_rooms_looked_at" 555)⟩, ⟨PyData.keyHash P "__doc__", .str "__doc__" 166, .none⟩, ⟨PyData.keyHash P "__package__", .str "__package__" 167, .none⟩, ⟨PyData.keyHash P "__loader__", .str "__loader__" 168, (.builtin "__main__.__loader__#opaque")⟩, ⟨PyData.keyHash P "__spec__", .str "__spec__" 169, .none⟩, ⟨PyData.keyHash P "__annotations__", .str "__annotations__" 170, (.ref 6)⟩, ⟨PyData.keyHash P "__builtins__", .str "__builtins__" 171, (.ref 4)⟩, ⟨PyData.keyHash P "__file__", .str "__file__" 173, (.str "/claim/cut.py" 172)⟩, ⟨PyData.keyHash P "__cached__", .str "__cached__" 174, .none⟩, ⟨PyData.keyHash P "_wall", .str "_wall" 193, (.ref 21)⟩, ⟨PyData.keyHash P "raised_by", .str "raised_by" 201, (.ref 26)⟩, ⟨PyData.keyHash P "flat", .str "flat" 210, (.ref 33)⟩, ⟨PyData.keyHash P "each_once", .str "each_once" 217, (.ref 40)⟩, ⟨PyData.keyHash P "any_cross", .str "any_cross" 228, (.ref 47)⟩, ⟨PyData.keyHash P "shares", .str "shares" 236, (.ref 52)⟩, ⟨PyData.keyHash P "by_rule", .str "by_rule" 245, (.ref 59)⟩, ⟨PyData.keyHash P "KinError", .str "KinError" 265, (.ref 69)⟩, ⟨PyData.keyHash P "NoThing", .str "NoThing" 281, (.ref 82)⟩, ⟨PyData.keyHash P "Family", .str "Family" 398, (.ref 171)⟩, ⟨PyData.keyHash P "SplitFamily", .str "SplitFamily" 492, (.ref 246)⟩, ⟨PyData.keyHash P "Rooms", .str "Rooms" 548, (.ref 292)⟩, ⟨PyData.keyHash P "neighbours", .str "neighbours" 554, (.ref 299)⟩, ⟨PyData.keyHash P "_law_cell_at", .str "_law_cell_at" 564, (.ref 306)⟩, ⟨PyData.keyHash P "_law_draws", .str "_law_draws" 570, (.ref 311)⟩, ⟨PyData.keyHash P "_law_number", .str "_law_number" 579, (.ref 318)⟩, ⟨PyData.keyHash P "_law_rooms", .str "_law_rooms" 595, (.ref 325)⟩, ⟨PyData.keyHash P "_law_copy", .str "_law_copy" 601, (.ref 330)⟩, ⟨PyData.keyHash P "_law_dealt", .str "_law_dealt" 607, (.ref 335)⟩, ⟨PyData.keyHash P "_law_moved", .str "_law_moved" 613, (.ref 340)⟩, ⟨PyData.keyHash P "_law_changed", .str "_law_changed" 619, (.ref 345)⟩, ⟨PyData.keyHash P "_law_homes", .str "_law_homes" 630, (.ref 352)⟩, ⟨PyData.keyHash P "_law_stand", .str "_law_stand" 642, (.ref 359)⟩, ⟨PyData.keyHash P "_law_refused", .str "_law_refused" 651, (.ref 366)⟩, ⟨PyData.keyHash P "law", .str "law" 657, (.ref 371)⟩] 34), #[]⟩) :: (nat_lit 15, ⟨(.type "tuple"), none, (.seq #[] 0), #[]⟩) :: (nat_lit 17, ⟨(.type "tuple"), none, (.seq #[(.str "k" 190)] 0), #[]⟩) :: (nat_lit 18, ⟨(.type "tuple"), none, (.seq #[] 0), #[]⟩) :: (nat_lit 20, ⟨(.type "code"), none, (.fields #[(.str "_wall" 187), (.str "_wall" 188), (.str "/claim/cut.py" 189), (.int 1 0), (.int 1 0), (.int 0 0), (.int 0 0), (.int 3 0), (.ref 15), (.bool true), (.int 181 0), (.ref 16), .none, (.ref 17), (.ref 18), (.ref 19), (.int 191 0), (.int 1 0), (.str "/claim/cut.py" 192)]), #[]⟩) :: (nat_lit 21, ⟨(.type "function"), none, (.func (fnOf "_wall" "_wall" (defArgs (top 0)) (defBody (top 0)) (defScope (top 0)) .none .none .none (.str "__main__" 164) none (.ref 20) .none)), #[]⟩) :: (nat_lit 22, ⟨(.type "tuple"), none, (.seq #[] 0), #[]⟩) :: (nat_lit 25, ⟨(.type "code"), none, (.fields #[(.str "raised_by" 196), (.str "raised_by" 197), (.str "/claim/cut.py" 198), (.int 5 0), (.int 2 0), (.int 0 0), (.int 0 0), (.int 3 0), (.ref 22), (.bool true), (.int 181 0), (.ref 23), .none, .none, .none, (.ref 24), (.int 199 0), (.int 5 0), (.str "/claim/cut.py" 200)]), #[]⟩) :: (nat_lit 26, ⟨(.type "function"), none, (.func (fnOf "raised_by" "raised_by" (defArgs (top 2)) (defBody (top 2)) (defScope (top 2)) .none .none .none (.str "countkin.common" 194) none (.ref 25) .none)), #[]⟩) :: (nat_lit 27, ⟨(.type "tuple"), none, (.seq #[] 0), #[]⟩) :: (nat_lit 29, ⟨(.type "tuple"), none, (.seq #[(.str "rows" 205), (.str "found" 206), (.str "row" 207)] 0), #[]⟩) :: (nat_lit 30, ⟨(.type "tuple"), none, (.seq #[] 0), #[]⟩) :: (nat_lit 32, ⟨(.type "code"), none, (.fields #[(.str "flat" 202), (.str "flat" 203), (.str "/claim/cut.py" 204), (.int 7 0), (.int 1 0), (.int 0 0), (.int 0 0), (.int 3 0), (.ref 27), (.bool true), (.int 181 0), (.ref 28), .none, (.ref 29), (.ref 30), (.ref 31), (.int 208 0), (.int 7 0), (.str "/claim/cut.py" 209)]), #[]⟩) :: (nat_lit 33, ⟨(.type "function"), none, (.func (fnOf "flat" "flat" (defArgs (top 3)) (defBody (top 3)) (defScope (top 3)) .none .none .none (.str "countkin.common" 194) none (.ref 32) .none)), #[]⟩) :: (nat_lit 34, ⟨(.type "tuple"), none, (.seq #[] 0), #[]⟩) :: (nat_lit 36, ⟨(.type "tuple"), none, (.seq #[(.str "numbers" 214)] 0), #[]⟩) :: (nat_lit 37, ⟨(.type "tuple"), none, (.seq #[] 0), #[]⟩) :: (nat_lit 39, ⟨(.type "code"), none, (.fields #[(.str "each_once" 211), (.str "each_once" 212), (.str "/claim/cut.py" 213), (.int 12 0), (.int 1 0), (.int 0 0), (.int 0 0), (.int 3 0), (.ref 34), (.bool true), (.int 181 0), (.ref 35), .none, (.ref 36), (.ref 37), (.ref 38), (.int 215 0), (.int 12 0), (.str "/claim/cut.py" 216)]), #[]⟩) :: (nat_lit 40, ⟨(.type "function"), none, (.func (fnOf "each_once" "each_once" (defArgs (top 4)) (defBody (top 4)) (defScope (top 4)) .none .none .none (.str "countkin.common" 194) none (.ref 39) .none)), #[]⟩) :: (nat_lit 41, ⟨(.type "tuple"), none, (.seq #[] 0), #[]⟩) :: (nat_lit 43, ⟨(.type "tuple"), none, (.seq #[(.str "pairs" 221), (.str "a" 222), (.str "b" 223), (.str "c" 224), (.str "d" 225)] 0), #[]⟩) :: (nat_lit 44, ⟨(.type "tuple"), none, (.seq #[] 0), #[]⟩) :: (nat_lit 46, ⟨(.type "code"), none, (.fields #[(.str "any_cross" 218), (.str "any_cross" 219), (.str "/claim/cut.py" 220), (.int 14 0), (.int 1 0), (.int 0 0), (.int 0 0), (.int 3 0), (.ref 41), (.bool true), (.int 181 0), (.ref 42), .none, (.ref 43), (.ref 44), (.ref 45), (.int 226 0), (.int 14 0), (.str "/claim/cut.py" 227)]), #[]⟩) :: (nat_lit 47, ⟨(.type "function"), none, (.func (fnOf "any_cross" "any_cross" (defArgs (top 5)) (defBody (top 5)) (defScope (top 5)) .none .none .none (.str "countkin.common" 194) none (.ref 46) .none)), #[]⟩) :: (nat_lit 48, ⟨(.type "tuple"), none, (.seq #[] 0), #[]⟩) :: (nat_lit 51, ⟨(.type "code"), none, (.fields #[(.str "shares" 231), (.str "shares" 232), (.str "/claim/cut.py" 233), (.int 21 0), (.int 1 0), (.int 0 0), (.int 0 0), (.int 3 0), (.ref 48), (.bool true), (.int 181 0), (.ref 49), .none, .none, .none, (.ref 50), (.int 234 0), (.int 21 0), (.str "/claim/cut.py" 235)]), #[]⟩) :: (nat_lit 52, ⟨(.type "function"), none, (.func (fnOf "shares" "shares" (defArgs (top 7)) (defBody (top 7)) (defScope (top 7)) .none .none .none (.str "countkin.counts" 229) none (.ref 51) .none)), #[]⟩) :: (nat_lit 53, ⟨(.type "tuple"), none, (.seq #[] 0), #[]⟩) :: (nat_lit 55, ⟨(.type "tuple"), none, (.seq #[(.str "size" 240), (.str "share" 241), (.str "k" 242)] 0), #[]⟩) :: (nat_lit 56, ⟨(.type "tuple"), none, (.seq #[] 0), #[]⟩) :: (nat_lit 58, ⟨(.type "code"), none, (.fields #[(.str "by_rule" 237), (.str "by_rule" 238), (.str "/claim/cut.py" 239), (.int 26 0), (.int 1 0), (.int 0 0), (.int 0 0), (.int 3 0), (.ref 53), (.bool true), (.int 181 0), (.ref 54), .none, (.ref 55), (.ref 56), (.ref 57), (.int 243 0), (.int 26 0), (.str "/claim/cut.py" 244)]), #[]⟩) :: (nat_lit 59, ⟨(.type "function"), none, (.func (fnOf "by_rule" "by_rule" (defArgs (top 8)) (defBody (top 8)) (defScope (top 8)) .none .none .none (.str "countkin.counts" 229) none (.ref 58) .none)), #[]⟩) :: (nat_lit 60, ⟨(.type "tuple"), none, (.seq #[(.type "ValueError")] 0), #[]⟩) :: (nat_lit 67, ⟨(.type "tuple"), none, (.seq #[] 0), #[]⟩) :: (nat_lit 68, ⟨(.type "dict"), none, (.dict #[⟨PyData.keyHash P "__module__", .str "__module__" 255, (.str "countkin.errors" 246)⟩, ⟨PyData.keyHash P "__firstlineno__", .str "__firstlineno__" 259, (.int 32 258)⟩, ⟨PyData.keyHash P "__static_attributes__", .str "__static_attributes__" 260, (.ref 67)⟩, ⟨PyData.keyHash P "__weakref__", .str "__weakref__" 262, (.ref 70)⟩, ⟨PyData.keyHash P "__doc__", .str "__doc__" 263, .none⟩] 3), #[]⟩) :: (nat_lit 69, ⟨(.type "type"), none, (.cls ⟨"KinError", [(.type "ValueError")], [(.ref 69), (.type "ValueError"), (.type "Exception"), (.type "BaseException"), (.type "object")], 68, "KinError", true, [], [(.ref 82)], false, none, false⟩), #[(some (.ref 60)), none, (some (.str "KinError" 248)), (some (.str "KinError" 256)), (some (.builtin "ValueError.__new__")), (some (.bool true))]⟩) :: (nat_lit 70, ⟨(.type "getset_descriptor"), none, (.fields #[(.str "__weakref__" 261), (.ref 69), (.builtin "ExceptionGroup.__weakref__"), .none]), #[]⟩) :: (nat_lit 73, ⟨(.type "tuple"), none, (.seq #[(.ref 69)] 0), #[]⟩) :: (nat_lit 80, ⟨(.type "tuple"), none, (.seq #[] 0), #[]⟩) :: (nat_lit 81, ⟨(.type "dict"), none, (.dict #[⟨PyData.keyHash P "__module__", .str "__module__" 273, (.str "countkin.errors" 246)⟩, ⟨PyData.keyHash P "__firstlineno__", .str "__firstlineno__" 277, (.int 34 276)⟩, ⟨PyData.keyHash P "__static_attributes__", .str "__static_attributes__" 278, (.ref 80)⟩, ⟨PyData.keyHash P "__doc__", .str "__doc__" 279, .none⟩] 2), #[]⟩) :: (nat_lit 82, ⟨(.type "type"), none, (.cls ⟨"NoThing", [(.ref 69)], [(.ref 82), (.ref 69), (.type "ValueError"), (.type "Exception"), (.type "BaseException"), (.type "object")], 81, "NoThing", true, [], [], false, none, false⟩), #[(some (.ref 73)), none, (some (.str "NoThing" 266)), (some (.str "NoThing" 274)), (some (.builtin "ValueError.__new__")), (some (.bool true))]⟩) :: (nat_lit 92, ⟨(.type "tuple"), none, (.seq #[] 0), #[]⟩) :: (nat_lit 94, ⟨(.type "tuple"), none, (.seq #[(.str "self" 299), (.str "word" 300), (.str "least" 301)] 0), #[]⟩) :: (nat_lit 95, ⟨(.type "tuple"), none, (.seq #[] 0), #[]⟩) :: (nat_lit 97, ⟨(.type "code"), none, (.fields #[(.str "__init__" 296), (.str "Family.__init__" 297), (.str "/claim/cut.py" 298), (.int 39 0), (.int 3 0), (.int 0 0), (.int 0 0), (.int 3 0), (.ref 92), (.bool true), (.int 181 0), (.ref 93), .none, (.ref 94), (.ref 95), (.ref 96), (.int 302 0), (.int 39 0), (.str "/claim/cut.py" 303)]), #[]⟩) :: (nat_lit 98, ⟨(.type "function"), none, (.func (fnOf "__init__" "Family.__init__" (defArgs (inClass (top 13) 0)) (defBody (inClass (top 13) 0)) (defScope (inClass (top 13) 0)) .none .none .none (.str "countkin.kin" 282) none (.ref 97) .none)), #[]⟩) :: (nat_lit 99, ⟨(.type "tuple"), none, (.seq #[] 0), #[]⟩) :: (nat_lit 101, ⟨(.type "tuple"), none, (.seq #[(.str "self" 308), (.str "thing" 309)] 0), #[]⟩) :: (nat_lit 102, ⟨(.type "tuple"), none, (.seq #[] 0), #[]⟩) :: (nat_lit 104, ⟨(.type "code"), none, (.fields #[(.str "size_of" 305), (.str "Family.size_of" 306), (.str "/claim/cut.py" 307), (.int 43 0), (.int 2 0), (.int 0 0), (.int 0 0), (.int 3 0), (.ref 99), (.bool true), (.int 181 0), (.ref 100), .none, (.ref 101), (.ref 102), (.ref 103), (.int 310 0), (.int 43 0), (.str "/claim/cut.py" 311)]), #[]⟩) :: (nat_lit 105, ⟨(.type "function"), none, (.func (fnOf "size_of" "Family.size_of" (defArgs (inClass (top 13) 1)) (defBody (inClass (top 13) 1)) (defScope (inClass (top 13) 1)) .none .none .none (.str "countkin.kin" 282) none (.ref 104) .none)), #[]⟩) :: (nat_lit 106, ⟨(.type "tuple"), none, (.seq #[] 0), #[]⟩) :: (nat_lit 108, ⟨(.type "tuple"), none, (.seq #[(.str "self" 316), (.str "thing" 317)] 0), #[]⟩) :: (nat_lit 109, ⟨(.type "tuple"), none, (.seq #[] 0), #[]⟩) :: (nat_lit 111, ⟨(.type "code"), none, (.fields #[(.str "is_one" 313), (.str "Family.is_one" 314), (.str "/claim/cut.py" 315), (.int 46 0), (.int 2 0), (.int 0 0), (.int 0 0), (.int 3 0), (.ref 106), (.bool true), (.int 181 0), (.ref 107), .none, (.ref 108), (.ref 109), (.ref 110), (.int 318 0), (.int 46 0), (.str "/claim/cut.py" 319)]), #[]⟩) :: (nat_lit 112, ⟨(.type "function"), none, (.func (fnOf "is_one" "Family.is_one" (defArgs (inClass (top 13) 2)) (defBody (inClass (top 13) 2)) (defScope (inClass (top 13) 2)) .none .none .none (.str "countkin.kin" 282) none (.ref 111) .none)), #[]⟩) :: (nat_lit 113, ⟨(.type "tuple"), none, (.seq #[] 0), #[]⟩) :: (nat_lit 115, ⟨(.type "tuple"), none, (.seq #[(.str "self" 324), (.str "size" 325)] 0), #[]⟩) :: (nat_lit 116, ⟨(.type "tuple"), none, (.seq #[] 0), #[]⟩) :: (nat_lit 118, ⟨(.type "code"), none, (.fields #[(.str "unchecked_many" 321), (.str "Family.unchecked_many" 322), (.str "/claim/cut.py" 323), (.int 49 0), (.int 2 0), (.int 0 0), (.int 0 0), (.int 3 0), (.ref 113), (.bool true), (.int 181 0), (.ref 114), .none, (.ref 115), (.ref 116), (.ref 117), (.int 326 0), (.int 49 0), (.str "/claim/cut.py" 327)]), #[]⟩) :: (nat_lit 119, ⟨(.type "function"), none, (.func (fnOf "unchecked_many" "Family.unchecked_many" (defArgs (inClass (top 13) 3)) (defBody (inClass (top 13) 3)) (defScope (inClass (top 13) 3)) .none .none .none (.str "countkin.kin" 282) none (.ref 118) .none)), #[]⟩) :: (nat_lit 120, ⟨(.type "tuple"), none, (.seq #[] 0), #[]⟩) :: (nat_lit 122, ⟨(.type "tuple"), none, (.seq #[(.str "self" 332), (.str "thing" 333)] 0), #[]⟩) :: (nat_lit 123, ⟨(.type "tuple"), none, (.seq #[] 0), #[]⟩) :: (nat_lit 125, ⟨(.type "code"), none, (.fields #[(.str "unchecked_number" 329), (.str "Family.unchecked_number" 330), (.str "/claim/cut.py" 331), (.int 52 0), (.int 2 0), (.int 0 0), (.int 0 0), (.int 3 0), (.ref 120), (.bool true), (.int 181 0), (.ref 121), .none, (.ref 122), (.ref 123), (.ref 124), (.int 334 0), (.int 52 0), (.str "/claim/cut.py" 335)]), #[]⟩) :: (nat_lit 126, ⟨(.type "function"), none, (.func (fnOf "unchecked_number" "Family.unchecked_number" (defArgs (inClass (top 13) 4)) (defBody (inClass (top 13) 4)) (defScope (inClass (top 13) 4)) .none .none .none (.str "countkin.kin" 282) none (.ref 125) .none)), #[]⟩) :: (nat_lit 127, ⟨(.type "tuple"), none, (.seq #[] 0), #[]⟩) :: (nat_lit 129, ⟨(.type "tuple"), none, (.seq #[(.str "self" 340), (.str "size" 341), (.str "number" 342)] 0), #[]⟩) :: (nat_lit 130, ⟨(.type "tuple"), none, (.seq #[] 0), #[]⟩) :: (nat_lit 132, ⟨(.type "code"), none, (.fields #[(.str "unchecked_thing" 337), (.str "Family.unchecked_thing" 338), (.str "/claim/cut.py" 339), (.int 55 0), (.int 3 0), (.int 0 0), (.int 0 0), (.int 3 0), (.ref 127), (.bool true), (.int 181 0), (.ref 128), .none, (.ref 129), (.ref 130), (.ref 131), (.int 343 0), (.int 55 0), (.str "/claim/cut.py" 344)]), #[]⟩) :: (nat_lit 133, ⟨(.type "function"), none, (.func (fnOf "unchecked_thing" "Family.unchecked_thing" (defArgs (inClass (top 13) 5)) (defBody (inClass (top 13) 5)) (defScope (inClass (top 13) 5)) .none .none .none (.str "countkin.kin" 282) none (.ref 132) .none)), #[]⟩) :: (nat_lit 134, ⟨(.type "tuple"), none, (.seq #[] 0), #[]⟩) :: (nat_lit 136, ⟨(.type "tuple"), none, (.seq #[(.str "self" 349), (.str "size" 350)] 0), #[]⟩) :: (nat_lit 137, ⟨(.type "tuple"), none, (.seq #[] 0), #[]⟩) :: (nat_lit 139, ⟨(.type "code"), none, (.fields #[(.str "many" 346), (.str "Family.many" 347), (.str "/claim/cut.py" 348), (.int 58 0), (.int 2 0), (.int 0 0), (.int 0 0), (.int 3 0), (.ref 134), (.bool true), (.int 181 0), (.ref 135), .none, (.ref 136), (.ref 137), (.ref 138), (.int 351 0), (.int 58 0), (.str "/claim/cut.py" 352)]), #[]⟩) :: (nat_lit 140, ⟨(.type "function"), none, (.func (fnOf "many" "Family.many" (defArgs (inClass (top 13) 6)) (defBody (inClass (top 13) 6)) (defScope (inClass (top 13) 6)) .none .none .none (.str "countkin.kin" 282) none (.ref 139) .none)), #[]⟩) :: (nat_lit 141, ⟨(.type "tuple"), none, (.seq #[] 0), #[]⟩) :: (nat_lit 143, ⟨(.type "tuple"), none, (.seq #[(.str "self" 357), (.str "thing" 358)] 0), #[]⟩) :: (nat_lit 144, ⟨(.type "tuple"), none, (.seq #[] 0), #[]⟩) :: (nat_lit 146, ⟨(.type "code"), none, (.fields #[(.str "refuse_other" 354), (.str "Family.refuse_other" 355), (.str "/claim/cut.py" 356), (.int 61 0), (.int 2 0), (.int 0 0), (.int 0 0), (.int 3 0), (.ref 141), (.bool true), (.int 181 0), (.ref 142), .none, (.ref 143), (.ref 144), (.ref 145), (.int 359 0), (.int 61 0), (.str "/claim/cut.py" 360)]), #[]⟩) :: (nat_lit 147, ⟨(.type "function"), none, (.func (fnOf "refuse_other" "Family.refuse_other" (defArgs (inClass (top 13) 7)) (defBody (inClass (top 13) 7)) (defScope (inClass (top 13) 7)) .none .none .none (.str "countkin.kin" 282) none (.ref 146) .none)), #[]⟩) :: (nat_lit 148, ⟨(.type "tuple"), none, (.seq #[] 0), #[]⟩) :: (nat_lit 150, ⟨(.type "tuple"), none, (.seq #[(.str "self" 365), (.str "thing" 366)] 0), #[]⟩) :: (nat_lit 151, ⟨(.type "tuple"), none, (.seq #[] 0), #[]⟩) :: (nat_lit 153, ⟨(.type "code"), none, (.fields #[(.str "number_of" 362), (.str "Family.number_of" 363), (.str "/claim/cut.py" 364), (.int 65 0), (.int 2 0), (.int 0 0), (.int 0 0), (.int 3 0), (.ref 148), (.bool true), (.int 181 0), (.ref 149), .none, (.ref 150), (.ref 151), (.ref 152), (.int 367 0), (.int 65 0), (.str "/claim/cut.py" 368)]), #[]⟩) :: (nat_lit 154, ⟨(.type "function"), none, (.func (fnOf "number_of" "Family.number_of" (defArgs (inClass (top 13) 8)) (defBody (inClass (top 13) 8)) (defScope (inClass (top 13) 8)) .none .none .none (.str "countkin.kin" 282) none (.ref 153) .none)), #[]⟩) :: (nat_lit 155, ⟨(.type "tuple"), none, (.seq #[] 0), #[]⟩) :: (nat_lit 157, ⟨(.type "tuple"), none, (.seq #[(.str "self" 373), (.str "size" 374), (.str "number" 375)] 0), #[]⟩) :: (nat_lit 158, ⟨(.type "tuple"), none, (.seq #[] 0), #[]⟩) :: (nat_lit 160, ⟨(.type "code"), none, (.fields #[(.str "thing_of" 370), (.str "Family.thing_of" 371), (.str "/claim/cut.py" 372), (.int 69 0), (.int 3 0), (.int 0 0), (.int 0 0), (.int 3 0), (.ref 155), (.bool true), (.int 181 0), (.ref 156), .none, (.ref 157), (.ref 158), (.ref 159), (.int 376 0), (.int 69 0), (.str "/claim/cut.py" 377)]), #[]⟩) :: (nat_lit 161, ⟨(.type "function"), none, (.func (fnOf "thing_of" "Family.thing_of" (defArgs (inClass (top 13) 9)) (defBody (inClass (top 13) 9)) (defScope (inClass (top 13) 9)) .none .none .none (.str "countkin.kin" 282) none (.ref 160) .none)), #[]⟩) :: (nat_lit 162, ⟨(.type "tuple"), none, (.seq #[] 0), #[]⟩) :: (nat_lit 164, ⟨(.type "tuple"), none, (.seq #[(.str "self" 382), (.str "thing" 383), (.str "number" 384), (.str "size" 385)] 0), #[]⟩) :: (nat_lit 165, ⟨(.type "tuple"), none, (.seq #[] 0), #[]⟩) :: (nat_lit 167, ⟨(.type "code"), none, (.fields #[(.str "next_of" 379), (.str "Family.next_of" 380), (.str "/claim/cut.py" 381), (.int 72 0), (.int 2 0), (.int 0 0), (.int 0 0), (.int 3 0), (.ref 162), (.bool true), (.int 181 0), (.ref 163), .none, (.ref 164), (.ref 165), (.ref 166), (.int 386 0), (.int 72 0), (.str "/claim/cut.py" 387)]), #[]⟩) :: (nat_lit 168, ⟨(.type "function"), none, (.func (fnOf "next_of" "Family.next_of" (defArgs (inClass (top 13) 10)) (defBody (inClass (top 13) 10)) (defScope (inClass (top 13) 10)) .none .none .none (.str "countkin.kin" 282) none (.ref 167) .none)), #[]⟩) :: (nat_lit 169, ⟨(.type "tuple"), none, (.seq #[(.str "least" 389), (.str "word" 390)] 0), #[]⟩) :: (nat_lit 170, ⟨(.type "dict"), none, (.dict #[⟨PyData.keyHash P "__module__", .str "__module__" 291, (.str "countkin.kin" 282)⟩, ⟨PyData.keyHash P "__firstlineno__", .str "__firstlineno__" 295, (.int 37 294)⟩, ⟨PyData.keyHash P "__init__", .str "__init__" 304, (.ref 98)⟩, ⟨PyData.keyHash P "size_of", .str "size_of" 312, (.ref 105)⟩, ⟨PyData.keyHash P "is_one", .str "is_one" 320, (.ref 112)⟩, ⟨PyData.keyHash P "unchecked_many", .str "unchecked_many" 328, (.ref 119)⟩, ⟨PyData.keyHash P "unchecked_number", .str "unchecked_number" 336, (.ref 126)⟩, ⟨PyData.keyHash P "unchecked_thing", .str "unchecked_thing" 345, (.ref 133)⟩, ⟨PyData.keyHash P "many", .str "many" 353, (.ref 140)⟩, ⟨PyData.keyHash P "refuse_other", .str "refuse_other" 361, (.ref 147)⟩, ⟨PyData.keyHash P "number_of", .str "number_of" 369, (.ref 154)⟩, ⟨PyData.keyHash P "thing_of", .str "thing_of" 378, (.ref 161)⟩, ⟨PyData.keyHash P "next_of", .str "next_of" 388, (.ref 168)⟩, ⟨PyData.keyHash P "__static_attributes__", .str "__static_attributes__" 391, (.ref 169)⟩, ⟨PyData.keyHash P "__dict__", .str "__dict__" 393, (.ref 172)⟩, ⟨PyData.keyHash P "__weakref__", .str "__weakref__" 395, (.ref 173)⟩, ⟨PyData.keyHash P "__doc__", .str "__doc__" 396, .none⟩] 4), #[]⟩) :: (nat_lit 171, ⟨(.type "type"), none, (.cls ⟨"Family", [(.type "object")], [(.ref 171), (.type "object")], 170, "Family", true, [], [(.ref 246)], false, none, false⟩), #[none, none, (some (.str "Family" 284)), (some (.str "Family" 292)), (some (.builtin "object.__new__")), (some (.bool true))]⟩) :: (nat_lit 172, ⟨(.type "getset_descriptor"), none, (.fields #[(.str "__dict__" 392), (.ref 171), (.builtin "function.__dict__"), (.builtin "function.__dict__#set")]), #[]⟩) :: (nat_lit 173, ⟨(.type "getset_descriptor"), none, (.fields #[(.str "__weakref__" 394), (.ref 171), (.builtin "ExceptionGroup.__weakref__"), .none]), #[]⟩) :: (nat_lit 176, ⟨(.type "tuple"), none, (.seq #[(.ref 171)] 0), #[]⟩) :: (nat_lit 183, ⟨(.type "tuple"), none, (.seq #[] 0), #[]⟩) :: (nat_lit 185, ⟨(.type "tuple"), none, (.seq #[(.str "self" 414), (.str "word" 415)] 0), #[]⟩) :: (nat_lit 186, ⟨(.type "tuple"), none, (.seq #[] 0), #[]⟩) :: (nat_lit 188, ⟨(.type "code"), none, (.fields #[(.str "__init__" 411), (.str "SplitFamily.__init__" 412), (.str "/claim/cut.py" 413), (.int 80 0), (.int 2 0), (.int 0 0), (.int 0 0), (.int 3 0), (.ref 183), (.bool true), (.int 181 0), (.ref 184), .none, (.ref 185), (.ref 186), (.ref 187), (.int 416 0), (.int 80 0), (.str "/claim/cut.py" 417)]), #[]⟩) :: (nat_lit 189, ⟨(.type "function"), none, (.func (fnOf "__init__" "SplitFamily.__init__" (defArgs (inClass (top 14) 0)) (defBody (inClass (top 14) 0)) (defScope (inClass (top 14) 0)) .none .none .none (.str "countkin.kin" 282) none (.ref 188) .none)), #[]⟩) :: (nat_lit 190, ⟨(.type "tuple"), none, (.seq #[] 0), #[]⟩) :: (nat_lit 192, ⟨(.type "tuple"), none, (.seq #[(.str "self" 422)] 0), #[]⟩) :: (nat_lit 193, ⟨(.type "tuple"), none, (.seq #[] 0), #[]⟩) :: (nat_lit 195, ⟨(.type "code"), none, (.fields #[(.str "bare" 419), (.str "SplitFamily.bare" 420), (.str "/claim/cut.py" 421), (.int 83 0), (.int 1 0), (.int 0 0), (.int 0 0), (.int 3 0), (.ref 190), (.bool true), (.int 181 0), (.ref 191), .none, (.ref 192), (.ref 193), (.ref 194), (.int 423 0), (.int 83 0), (.str "/claim/cut.py" 424)]), #[]⟩) :: (nat_lit 196, ⟨(.type "function"), none, (.func (fnOf "bare" "SplitFamily.bare" (defArgs (inClass (top 14) 1)) (defBody (inClass (top 14) 1)) (defScope (inClass (top 14) 1)) .none .none .none (.str "countkin.kin" 282) none (.ref 195) .none)), #[]⟩) :: (nat_lit 197, ⟨(.type "tuple"), none, (.seq #[] 0), #[]⟩) :: (nat_lit 199, ⟨(.type "tuple"), none, (.seq #[(.str "self" 429), (.str "thing" 430)] 0), #[]⟩) :: (nat_lit 200, ⟨(.type "tuple"), none, (.seq #[] 0), #[]⟩) :: (nat_lit 202, ⟨(.type "code"), none, (.fields #[(.str "parted" 426), (.str "SplitFamily.parted" 427), (.str "/claim/cut.py" 428), (.int 86 0), (.int 2 0), (.int 0 0), (.int 0 0), (.int 3 0), (.ref 197), (.bool true), (.int 181 0), (.ref 198), .none, (.ref 199), (.ref 200), (.ref 201), (.int 431 0), (.int 86 0), (.str "/claim/cut.py" 432)]), #[]⟩) :: (nat_lit 203, ⟨(.type "function"), none, (.func (fnOf "parted" "SplitFamily.parted" (defArgs (inClass (top 14) 2)) (defBody (inClass (top 14) 2)) (defScope (inClass (top 14) 2)) .none .none .none (.str "countkin.kin" 282) none (.ref 202) .none)), #[]⟩) :: (nat_lit 204, ⟨(.type "tuple"), none, (.seq #[] 0), #[]⟩) :: (nat_lit 206, ⟨(.type "tuple"), none, (.seq #[(.str "self" 437), (.str "left" 438), (.str "right" 439)] 0), #[]⟩) :: (nat_lit 207, ⟨(.type "tuple"), none, (.seq #[] 0), #[]⟩) :: (nat_lit 209, ⟨(.type "code"), none, (.fields #[(.str "joined" 434), (.str "SplitFamily.joined" 435), (.str "/claim/cut.py" 436), (.int 89 0), (.int 3 0), (.int 0 0), (.int 0 0), (.int 3 0), (.ref 204), (.bool true), (.int 181 0), (.ref 205), .none, (.ref 206), (.ref 207), (.ref 208), (.int 440 0), (.int 89 0), (.str "/claim/cut.py" 441)]), #[]⟩) :: (nat_lit 210, ⟨(.type "function"), none, (.func (fnOf "joined" "SplitFamily.joined" (defArgs (inClass (top 14) 3)) (defBody (inClass (top 14) 3)) (defScope (inClass (top 14) 3)) .none .none .none (.str "countkin.kin" 282) none (.ref 209) .none)), #[]⟩) :: (nat_lit 211, ⟨(.type "tuple"), none, (.seq #[] 0), #[]⟩) :: (nat_lit 213, ⟨(.type "tuple"), none, (.seq #[(.str "self" 446), (.str "size" 447)] 0), #[]⟩) :: (nat_lit 214, ⟨(.type "tuple"), none, (.seq #[] 0), #[]⟩) :: (nat_lit 216, ⟨(.type "code"), none, (.fields #[(.str "unchecked_many" 443), (.str "SplitFamily.unchecked_many" 444), (.str "/claim/cut.py" 445), (.int 92 0), (.int 2 0), (.int 0 0), (.int 0 0), (.int 3 0), (.ref 211), (.bool true), (.int 181 0), (.ref 212), .none, (.ref 213), (.ref 214), (.ref 215), (.int 448 0), (.int 92 0), (.str "/claim/cut.py" 449)]), #[]⟩) :: (nat_lit 217, ⟨(.type "function"), none, (.func (fnOf "unchecked_many" "SplitFamily.unchecked_many" (defArgs (inClass (top 14) 4)) (defBody (inClass (top 14) 4)) (defScope (inClass (top 14) 4)) .none .none .none (.str "countkin.kin" 282) none (.ref 216) .none)), #[]⟩) :: (nat_lit 218, ⟨(.type "tuple"), none, (.seq #[] 0), #[]⟩) :: (nat_lit 220, ⟨(.type "tuple"), none, (.seq #[(.str "self" 454), (.str "thing" 455)] 0), #[]⟩) :: (nat_lit 221, ⟨(.type "tuple"), none, (.seq #[] 0), #[]⟩) :: (nat_lit 223, ⟨(.type "code"), none, (.fields #[(.str "unchecked_number" 451), (.str "SplitFamily.unchecked_number" 452), (.str "/claim/cut.py" 453), (.int 95 0), (.int 2 0), (.int 0 0), (.int 0 0), (.int 3 0), (.ref 218), (.bool true), (.int 181 0), (.ref 219), .none, (.ref 220), (.ref 221), (.ref 222), (.int 456 0), (.int 95 0), (.str "/claim/cut.py" 457)]), #[]⟩) :: (nat_lit 224, ⟨(.type "function"), none, (.func (fnOf "unchecked_number" "SplitFamily.unchecked_number" (defArgs (inClass (top 14) 5)) (defBody (inClass (top 14) 5)) (defScope (inClass (top 14) 5)) .none .none .none (.str "countkin.kin" 282) none (.ref 223) .none)), #[]⟩) :: (nat_lit 225, ⟨(.type "tuple"), none, (.seq #[] 0), #[]⟩) :: (nat_lit 227, ⟨(.type "tuple"), none, (.seq #[(.str "self" 462), (.str "size" 463), (.str "number" 464)] 0), #[]⟩) :: (nat_lit 228, ⟨(.type "tuple"), none, (.seq #[] 0), #[]⟩) :: (nat_lit 230, ⟨(.type "code"), none, (.fields #[(.str "unchecked_thing" 459), (.str "SplitFamily.unchecked_thing" 460), (.str "/claim/cut.py" 461), (.int 98 0), (.int 3 0), (.int 0 0), (.int 0 0), (.int 3 0), (.ref 225), (.bool true), (.int 181 0), (.ref 226), .none, (.ref 227), (.ref 228), (.ref 229), (.int 465 0), (.int 98 0), (.str "/claim/cut.py" 466)]), #[]⟩) :: (nat_lit 231, ⟨(.type "function"), none, (.func (fnOf "unchecked_thing" "SplitFamily.unchecked_thing" (defArgs (inClass (top 14) 6)) (defBody (inClass (top 14) 6)) (defScope (inClass (top 14) 6)) .none .none .none (.str "countkin.kin" 282) none (.ref 230) .none)), #[]⟩) :: (nat_lit 232, ⟨(.type "tuple"), none, (.seq #[] 0), #[]⟩) :: (nat_lit 235, ⟨(.type "code"), none, (.fields #[(.str "number_by_parts" 468), (.str "SplitFamily.number_by_parts" 469), (.str "/claim/cut.py" 470), (.int 101 0), (.int 3 0), (.int 0 0), (.int 0 0), (.int 3 0), (.ref 232), (.bool true), (.int 181 0), (.ref 233), .none, .none, .none, (.ref 234), (.int 471 0), (.int 101 0), (.str "/claim/cut.py" 472)]), #[]⟩) :: (nat_lit 236, ⟨(.type "function"), none, (.func (fnOf "number_by_parts" "SplitFamily.number_by_parts" (defArgs (inClass (top 14) 7)) (defBody (inClass (top 14) 7)) (defScope (inClass (top 14) 7)) .none .none .none (.str "countkin.kin" 282) none (.ref 235) .none)), #[]⟩) :: (nat_lit 237, ⟨(.type "tuple"), none, (.seq #[] 0), #[]⟩) :: (nat_lit 239, ⟨(.type "tuple"), none, (.seq #[(.str "self" 477), (.str "counts" 478), (.str "size" 479), (.str "number" 480), (.str "left_size" 481), (.str "rest" 482), (.str "right_size" 483), (.str "left" 484), (.str "right" 485)] 0), #[]⟩) :: (nat_lit 240, ⟨(.type "tuple"), none, (.seq #[] 0), #[]⟩) :: (nat_lit 242, ⟨(.type "code"), none, (.fields #[(.str "thing_by_parts" 474), (.str "SplitFamily.thing_by_parts" 475), (.str "/claim/cut.py" 476), (.int 112 0), (.int 4 0), (.int 0 0), (.int 0 0), (.int 3 0), (.ref 237), (.bool true), (.int 181 0), (.ref 238), .none, (.ref 239), (.ref 240), (.ref 241), (.int 486 0), (.int 112 0), (.str "/claim/cut.py" 487)]), #[]⟩) :: (nat_lit 243, ⟨(.type "function"), none, (.func (fnOf "thing_by_parts" "SplitFamily.thing_by_parts" (defArgs (inClass (top 14) 8)) (defBody (inClass (top 14) 8)) (defScope (inClass (top 14) 8)) .none .none .none (.str "countkin.kin" 282) none (.ref 242) .none)), #[]⟩) :: (nat_lit 244, ⟨(.type "tuple"), none, (.seq #[] 0), #[]⟩) :: (nat_lit 245, ⟨(.type "dict"), none, (.dict #[⟨PyData.keyHash P "__module__", .str "__module__" 406, (.str "countkin.kin" 282)⟩, ⟨PyData.keyHash P "__firstlineno__", .str "__firstlineno__" 410, (.int 78 409)⟩, ⟨PyData.keyHash P "__init__", .str "__init__" 418, (.ref 189)⟩, ⟨PyData.keyHash P "bare", .str "bare" 425, (.ref 196)⟩, ⟨PyData.keyHash P "parted", .str "parted" 433, (.ref 203)⟩, ⟨PyData.keyHash P "joined", .str "joined" 442, (.ref 210)⟩, ⟨PyData.keyHash P "unchecked_many", .str "unchecked_many" 450, (.ref 217)⟩, ⟨PyData.keyHash P "unchecked_number", .str "unchecked_number" 458, (.ref 224)⟩, ⟨PyData.keyHash P "unchecked_thing", .str "unchecked_thing" 467, (.ref 231)⟩, ⟨PyData.keyHash P "number_by_parts", .str "number_by_parts" 473, (.ref 236)⟩, ⟨PyData.keyHash P "thing_by_parts", .str "thing_by_parts" 488, (.ref 243)⟩, ⟨PyData.keyHash P "__static_attributes__", .str "__static_attributes__" 489, (.ref 244)⟩, ⟨PyData.keyHash P "__doc__", .str "__doc__" 490, .none⟩] 2), #[]⟩) :: (nat_lit 246, ⟨(.type "type"), none, (.cls ⟨"SplitFamily", [(.ref 171)], [(.ref 246), (.ref 171), (.type "object")], 245, "SplitFamily", true, [], [(.ref 292)], false, none, false⟩), #[(some (.ref 176)), none, (some (.str "SplitFamily" 399)), (some (.str "SplitFamily" 407)), (some (.builtin "object.__new__")), (some (.bool true))]⟩) :: (nat_lit 249, ⟨(.type "tuple"), none, (.seq #[(.ref 246)] 0), #[]⟩) :: (nat_lit 256, ⟨(.type "tuple"), none, (.seq #[] 0), #[]⟩) :: (nat_lit 258, ⟨(.type "tuple"), none, (.seq #[(.str "self" 510)] 0), #[]⟩) :: (nat_lit 259, ⟨(.type "tuple"), none, (.seq #[] 0), #[]⟩) :: (nat_lit 261, ⟨(.type "code"), none, (.fields #[(.str "__init__" 507), (.str "Rooms.__init__" 508), (.str "/claim/cut.py" 509), (.int 127 0), (.int 1 0), (.int 0 0), (.int 0 0), (.int 3 0), (.ref 256), (.bool true), (.int 181 0), (.ref 257), .none, (.ref 258), (.ref 259), (.ref 260), (.int 511 0), (.int 127 0), (.str "/claim/cut.py" 512)]), #[]⟩) :: (nat_lit 262, ⟨(.type "function"), none, (.func (fnOf "__init__" "Rooms.__init__" (defArgs (inClass (top 16) 0)) (defBody (inClass (top 16) 0)) (defScope (inClass (top 16) 0)) .none .none .none (.str "countkin.bends" 493) none (.ref 261) .none)), #[]⟩) :: (nat_lit 263, ⟨(.type "tuple"), none, (.seq #[] 0), #[]⟩) :: (nat_lit 266, ⟨(.type "code"), none, (.fields #[(.str "size_of" 514), (.str "Rooms.size_of" 515), (.str "/claim/cut.py" 516), (.int 130 0), (.int 2 0), (.int 0 0), (.int 0 0), (.int 3 0), (.ref 263), (.bool true), (.int 181 0), (.ref 264), .none, .none, .none, (.ref 265), (.int 517 0), (.int 130 0), (.str "/claim/cut.py" 518)]), #[]⟩) :: (nat_lit 267, ⟨(.type "function"), none, (.func (fnOf "size_of" "Rooms.size_of" (defArgs (inClass (top 16) 1)) (defBody (inClass (top 16) 1)) (defScope (inClass (top 16) 1)) .none .none .none (.str "countkin.bends" 493) none (.ref 266) .none)), #[]⟩) :: (nat_lit 268, ⟨(.type "tuple"), none, (.seq #[] 0), #[]⟩) :: (nat_lit 271, ⟨(.type "code"), none, (.fields #[(.str "is_one" 520), (.str "Rooms.is_one" 521), (.str "/claim/cut.py" 522), (.int 133 0), (.int 2 0), (.int 0 0), (.int 0 0), (.int 3 0), (.ref 268), (.bool true), (.int 181 0), (.ref 269), .none, .none, .none, (.ref 270), (.int 523 0), (.int 133 0), (.str "/claim/cut.py" 524)]), #[]⟩) :: (nat_lit 272, ⟨(.type "function"), none, (.func (fnOf "is_one" "Rooms.is_one" (defArgs (inClass (top 16) 2)) (defBody (inClass (top 16) 2)) (defScope (inClass (top 16) 2)) .none .none .none (.str "countkin.bends" 493) none (.ref 271) .none)), #[]⟩) :: (nat_lit 273, ⟨(.type "tuple"), none, (.seq #[] 0), #[]⟩) :: (nat_lit 275, ⟨(.type "tuple"), none, (.seq #[(.str "self" 529)] 0), #[]⟩) :: (nat_lit 276, ⟨(.type "tuple"), none, (.seq #[] 0), #[]⟩) :: (nat_lit 278, ⟨(.type "code"), none, (.fields #[(.str "bare" 526), (.str "Rooms.bare" 527), (.str "/claim/cut.py" 528), (.int 138 0), (.int 1 0), (.int 0 0), (.int 0 0), (.int 3 0), (.ref 273), (.bool true), (.int 181 0), (.ref 274), .none, (.ref 275), (.ref 276), (.ref 277), (.int 530 0), (.int 138 0), (.str "/claim/cut.py" 531)]), #[]⟩) :: (nat_lit 279, ⟨(.type "function"), none, (.func (fnOf "bare" "Rooms.bare" (defArgs (inClass (top 16) 3)) (defBody (inClass (top 16) 3)) (defScope (inClass (top 16) 3)) .none .none .none (.str "countkin.bends" 493) none (.ref 278) .none)), #[]⟩) :: (nat_lit 280, ⟨(.type "tuple"), none, (.seq #[] 0), #[]⟩) :: (nat_lit 283, ⟨(.type "code"), none, (.fields #[(.str "parted" 533), (.str "Rooms.parted" 534), (.str "/claim/cut.py" 535), (.int 141 0), (.int 2 0), (.int 0 0), (.int 0 0), (.int 3 0), (.ref 280), (.bool true), (.int 181 0), (.ref 281), .none, .none, .none, (.ref 282), (.int 536 0), (.int 141 0), (.str "/claim/cut.py" 537)]), #[]⟩) :: (nat_lit 284, ⟨(.type "function"), none, (.func (fnOf "parted" "Rooms.parted" (defArgs (inClass (top 16) 4)) (defBody (inClass (top 16) 4)) (defScope (inClass (top 16) 4)) .none .none .none (.str "countkin.bends" 493) none (.ref 283) .none)), #[]⟩) :: (nat_lit 285, ⟨(.type "tuple"), none, (.seq #[] 0), #[]⟩) :: (nat_lit 288, ⟨(.type "code"), none, (.fields #[(.str "joined" 539), (.str "Rooms.joined" 540), (.str "/claim/cut.py" 541), (.int 149 0), (.int 3 0), (.int 0 0), (.int 0 0), (.int 3 0), (.ref 285), (.bool true), (.int 181 0), (.ref 286), .none, .none, .none, (.ref 287), (.int 542 0), (.int 149 0), (.str "/claim/cut.py" 543)]), #[]⟩) :: (nat_lit 289, ⟨(.type "function"), none, (.func (fnOf "joined" "Rooms.joined" (defArgs (inClass (top 16) 5)) (defBody (inClass (top 16) 5)) (defScope (inClass (top 16) 5)) .none .none .none (.str "countkin.bends" 493) none (.ref 288) .none)), #[]⟩) :: (nat_lit 290, ⟨(.type "tuple"), none, (.seq #[] 0), #[]⟩) :: (nat_lit 291, ⟨(.type "dict"), none, (.dict #[⟨PyData.keyHash P "__module__", .str "__module__" 502, (.str "countkin.bends" 493)⟩, ⟨PyData.keyHash P "__firstlineno__", .str "__firstlineno__" 506, (.int 125 505)⟩, ⟨PyData.keyHash P "__init__", .str "__init__" 513, (.ref 262)⟩, ⟨PyData.keyHash P "size_of", .str "size_of" 519, (.ref 267)⟩, ⟨PyData.keyHash P "is_one", .str "is_one" 525, (.ref 272)⟩, ⟨PyData.keyHash P "bare", .str "bare" 532, (.ref 279)⟩, ⟨PyData.keyHash P "parted", .str "parted" 538, (.ref 284)⟩, ⟨PyData.keyHash P "joined", .str "joined" 544, (.ref 289)⟩, ⟨PyData.keyHash P "__static_attributes__", .str "__static_attributes__" 545, (.ref 290)⟩, ⟨PyData.keyHash P "__doc__", .str "__doc__" 546, .none⟩] 2), #[]⟩) :: (nat_lit 292, ⟨(.type "type"), none, (.cls ⟨"Rooms", [(.ref 246)], [(.ref 292), (.ref 246), (.ref 171), (.type "object")], 291, "Rooms", true, [], [], false, none, false⟩), #[(some (.ref 249)), none, (some (.str "Rooms" 495)), (some (.str "Rooms" 503)), (some (.builtin "object.__new__")), (some (.bool true))]⟩) :: (nat_lit 295, ⟨(.type "tuple"), none, (.seq #[] 0), #[]⟩) :: (nat_lit 298, ⟨(.type "code"), none, (.fields #[(.str "neighbours" 549), (.str "neighbours" 550), (.str "/claim/cut.py" 551), (.int 159 0), (.int 1 0), (.int 0 0), (.int 0 0), (.int 3 0), (.ref 295), (.bool true), (.int 181 0), (.ref 296), .none, .none, .none, (.ref 297), (.int 552 0), (.int 159 0), (.str "/claim/cut.py" 553)]), #[]⟩) :: (nat_lit 299, ⟨(.type "function"), none, (.func (fnOf "neighbours" "neighbours" (defArgs (top 17)) (defBody (top 17)) (defScope (top 17)) .none .none .none (.str "countkin.bends" 493) none (.ref 298) .none)), #[]⟩) :: (nat_lit 300, ⟨(.type "tuple"), none, (.seq #[] 0), #[]⟩) :: (nat_lit 302, ⟨(.type "tuple"), none, (.seq #[(.str "_law_script" 560), (.str "_law_k" 561)] 0), #[]⟩) :: (nat_lit 303, ⟨(.type "tuple"), none, (.seq #[] 0), #[]⟩) :: (nat_lit 305, ⟨(.type "code"), none, (.fields #[(.str "_law_cell_at" 557), (.str "_law_cell_at" 558), (.str "/claim/cut.py" 559), (.int 162 0), (.int 2 0), (.int 0 0), (.int 0 0), (.int 3 0), (.ref 300), (.bool true), (.int 181 0), (.ref 301), .none, (.ref 302), (.ref 303), (.ref 304), (.int 562 0), (.int 162 0), (.str "/claim/cut.py" 563)]), #[]⟩) :: (nat_lit 306, ⟨(.type "function"), none, (.func (fnOf "_law_cell_at" "_law_cell_at" (defArgs (top 19)) (defBody (top 19)) (defScope (top 19)) .none .none .none (.str "law_countkin_k16_rooms_looked_at" 555) none (.ref 305) .none)), #[]⟩) :: (nat_lit 307, ⟨(.type "tuple"), none, (.seq #[] 0), #[]⟩) :: (nat_lit 310, ⟨(.type "code"), none, (.fields #[(.str "_law_draws" 565), (.str "_law_draws" 566), (.str "/claim/cut.py" 567), (.int 166 0), (.int 3 0), (.int 0 0), (.int 0 0), (.int 3 0), (.ref 307), (.bool true), (.int 181 0), (.ref 308), .none, .none, .none, (.ref 309), (.int 568 0), (.int 166 0), (.str "/claim/cut.py" 569)]), #[]⟩) :: (nat_lit 311, ⟨(.type "function"), none, (.func (fnOf "_law_draws" "_law_draws" (defArgs (top 20)) (defBody (top 20)) (defScope (top 20)) .none .none .none (.str "law_countkin_k16_rooms_looked_at" 555) none (.ref 310) .none)), #[]⟩) :: (nat_lit 312, ⟨(.type "tuple"), none, (.seq #[] 0), #[]⟩) :: (nat_lit 314, ⟨(.type "tuple"), none, (.seq #[(.str "_law_draw" 574), (.str "_law_cell" 575), (.str "_law_top" 576)] 0), #[]⟩) :: (nat_lit 315, ⟨(.type "tuple"), none, (.seq #[] 0), #[]⟩) :: (nat_lit 317, ⟨(.type "code"), none, (.fields #[(.str "_law_number" 571), (.str "_law_number" 572), (.str "/claim/cut.py" 573), (.int 183 0), (.int 3 0), (.int 0 0), (.int 0 0), (.int 3 0), (.ref 312), (.bool true), (.int 181 0), (.ref 313), .none, (.ref 314), (.ref 315), (.ref 316), (.int 577 0), (.int 183 0), (.str "/claim/cut.py" 578)]), #[]⟩) :: (nat_lit 318, ⟨(.type "function"), none, (.func (fnOf "_law_number" "_law_number" (defArgs (top 21)) (defBody (top 21)) (defScope (top 21)) .none .none .none (.str "law_countkin_k16_rooms_looked_at" 555) none (.ref 317) .none)), #[]⟩) :: (nat_lit 319, ⟨(.type "tuple"), none, (.seq #[] 0), #[]⟩) :: (nat_lit 321, ⟨(.type "tuple"), none, (.seq #[(.str "_law_script" 583), (.str "_law_size" 584), (.str "_law_turn" 585), (.str "_law_draws_here" 586), (.str "_law_lean" 587), (.str "_law_out" 588), (.str "_law_rooms_here" 589), (.str "_law_pile" 590), (.str "_law_k" 591), (.str "_law_j" 592)] 0), #[]⟩) :: (nat_lit 322, ⟨(.type "tuple"), none, (.seq #[] 0), #[]⟩) :: (nat_lit 324, ⟨(.type "code"), none, (.fields #[(.str "_law_rooms" 580), (.str "_law_rooms" 581), (.str "/claim/cut.py" 582), (.int 187 0), (.int 3 0), (.int 0 0), (.int 0 0), (.int 3 0), (.ref 319), (.bool true), (.int 181 0), (.ref 320), .none, (.ref 321), (.ref 322), (.ref 323), (.int 593 0), (.int 187 0), (.str "/claim/cut.py" 594)]), #[]⟩) :: (nat_lit 325, ⟨(.type "function"), none, (.func (fnOf "_law_rooms" "_law_rooms" (defArgs (top 22)) (defBody (top 22)) (defScope (top 22)) .none .none .none (.str "law_countkin_k16_rooms_looked_at" 555) none (.ref 324) .none)), #[]⟩) :: (nat_lit 326, ⟨(.type "tuple"), none, (.seq #[] 0), #[]⟩) :: (nat_lit 329, ⟨(.type "code"), none, (.fields #[(.str "_law_copy" 596), (.str "_law_copy" 597), (.str "/claim/cut.py" 598), (.int 202 0), (.int 1 0), (.int 0 0), (.int 0 0), (.int 3 0), (.ref 326), (.bool true), (.int 181 0), (.ref 327), .none, .none, .none, (.ref 328), (.int 599 0), (.int 202 0), (.str "/claim/cut.py" 600)]), #[]⟩) :: (nat_lit 330, ⟨(.type "function"), none, (.func (fnOf "_law_copy" "_law_copy" (defArgs (top 23)) (defBody (top 23)) (defScope (top 23)) .none .none .none (.str "law_countkin_k16_rooms_looked_at" 555) none (.ref 329) .none)), #[]⟩) :: (nat_lit 331, ⟨(.type "tuple"), none, (.seq #[] 0), #[]⟩) :: (nat_lit 334, ⟨(.type "code"), none, (.fields #[(.str "_law_dealt" 602), (.str "_law_dealt" 603), (.str "/claim/cut.py" 604), (.int 204 0), (.int 1 0), (.int 0 0), (.int 0 0), (.int 3 0), (.ref 331), (.bool true), (.int 181 0), (.ref 332), .none, .none, .none, (.ref 333), (.int 605 0), (.int 204 0), (.str "/claim/cut.py" 606)]), #[]⟩) :: (nat_lit 335, ⟨(.type "function"), none, (.func (fnOf "_law_dealt" "_law_dealt" (defArgs (top 24)) (defBody (top 24)) (defScope (top 24)) .none .none .none (.str "law_countkin_k16_rooms_looked_at" 555) none (.ref 334) .none)), #[]⟩) :: (nat_lit 336, ⟨(.type "tuple"), none, (.seq #[] 0), #[]⟩) :: (nat_lit 339, ⟨(.type "code"), none, (.fields #[(.str "_law_moved" 608), (.str "_law_moved" 609), (.str "/claim/cut.py" 610), (.int 210 0), (.int 4 0), (.int 0 0), (.int 0 0), (.int 3 0), (.ref 336), (.bool true), (.int 181 0), (.ref 337), .none, .none, .none, (.ref 338), (.int 611 0), (.int 210 0), (.str "/claim/cut.py" 612)]), #[]⟩) :: (nat_lit 340, ⟨(.type "function"), none, (.func (fnOf "_law_moved" "_law_moved" (defArgs (top 25)) (defBody (top 25)) (defScope (top 25)) .none .none .none (.str "law_countkin_k16_rooms_looked_at" 555) none (.ref 339) .none)), #[]⟩) :: (nat_lit 341, ⟨(.type "tuple"), none, (.seq #[] 0), #[]⟩) :: (nat_lit 344, ⟨(.type "code"), none, (.fields #[(.str "_law_changed" 614), (.str "_law_changed" 615), (.str "/claim/cut.py" 616), (.int 215 0), (.int 4 0), (.int 0 0), (.int 0 0), (.int 3 0), (.ref 341), (.bool true), (.int 181 0), (.ref 342), .none, .none, .none, (.ref 343), (.int 617 0), (.int 215 0), (.str "/claim/cut.py" 618)]), #[]⟩) :: (nat_lit 345, ⟨(.type "function"), none, (.func (fnOf "_law_changed" "_law_changed" (defArgs (top 26)) (defBody (top 26)) (defScope (top 26)) .none .none .none (.str "law_countkin_k16_rooms_looked_at" 555) none (.ref 344) .none)), #[]⟩) :: (nat_lit 346, ⟨(.type "tuple"), none, (.seq #[] 0), #[]⟩) :: (nat_lit 348, ⟨(.type "tuple"), none, (.seq #[(.str "_law_rooms_here" 623), (.str "_law_homes_here" 624), (.str "_law_k" 625), (.str "_law_at" 626), (.str "_law_number_here" 627)] 0), #[]⟩) :: (nat_lit 349, ⟨(.type "tuple"), none, (.seq #[] 0), #[]⟩) :: (nat_lit 351, ⟨(.type "code"), none, (.fields #[(.str "_law_homes" 620), (.str "_law_homes" 621), (.str "/claim/cut.py" 622), (.int 241 0), (.int 1 0), (.int 0 0), (.int 0 0), (.int 3 0), (.ref 346), (.bool true), (.int 181 0), (.ref 347), .none, (.ref 348), (.ref 349), (.ref 350), (.int 628 0), (.int 241 0), (.str "/claim/cut.py" 629)]), #[]⟩) :: (nat_lit 352, ⟨(.type "function"), none, (.func (fnOf "_law_homes" "_law_homes" (defArgs (top 27)) (defBody (top 27)) (defScope (top 27)) .none .none .none (.str "law_countkin_k16_rooms_looked_at" 555) none (.ref 351) .none)), #[]⟩) :: (nat_lit 353, ⟨(.type "tuple"), none, (.seq #[] 0), #[]⟩) :: (nat_lit 355, ⟨(.type "tuple"), none, (.seq #[(.str "_law_rooms_here" 634), (.str "_law_homes_here" 635), (.str "_law_room" 636), (.str "_law_at" 637), (.str "_law_number_here" 638), (.str "_law_other" 639)] 0), #[]⟩) :: (nat_lit 356, ⟨(.type "tuple"), none, (.seq #[] 0), #[]⟩) :: (nat_lit 358, ⟨(.type "code"), none, (.fields #[(.str "_law_stand" 631), (.str "_law_stand" 632), (.str "/claim/cut.py" 633), (.int 254 0), (.int 1 0), (.int 0 0), (.int 0 0), (.int 3 0), (.ref 353), (.bool true), (.int 181 0), (.ref 354), .none, (.ref 355), (.ref 356), (.ref 357), (.int 640 0), (.int 254 0), (.str "/claim/cut.py" 641)]), #[]⟩) :: (nat_lit 359, ⟨(.type "function"), none, (.func (fnOf "_law_stand" "_law_stand" (defArgs (top 28)) (defBody (top 28)) (defScope (top 28)) .none .none .none (.str "law_countkin_k16_rooms_looked_at" 555) none (.ref 358) .none)), #[]⟩) :: (nat_lit 360, ⟨(.type "tuple"), none, (.seq #[] 0), #[]⟩) :: (nat_lit 362, ⟨(.type "tuple"), none, (.seq #[(.str "_law_kin" 646), (.str "_law_rooms_here" 647), (.str "_law_refused_here" 648)] 0), #[]⟩) :: (nat_lit 363, ⟨(.type "tuple"), none, (.seq #[] 0), #[]⟩) :: (nat_lit 365, ⟨(.type "code"), none, (.fields #[(.str "_law_refused" 643), (.str "_law_refused" 644), (.str "/claim/cut.py" 645), (.int 265 0), (.int 2 0), (.int 0 0), (.int 0 0), (.int 3 0), (.ref 360), (.bool true), (.int 181 0), (.ref 361), .none, (.ref 362), (.ref 363), (.ref 364), (.int 649 0), (.int 265 0), (.str "/claim/cut.py" 650)]), #[]⟩) :: (nat_lit 366, ⟨(.type "function"), none, (.func (fnOf "_law_refused" "_law_refused" (defArgs (top 29)) (defBody (top 29)) (defScope (top 29)) .none .none .none (.str "law_countkin_k16_rooms_looked_at" 555) none (.ref 365) .none)), #[]⟩) :: (nat_lit 367, ⟨(.type "tuple"), none, (.seq #[] 0), #[]⟩) :: (nat_lit 370, ⟨(.type "code"), none, (.fields #[(.str "law" 652), (.str "law" 653), (.str "/claim/cut.py" 654), (.int 276 0), (.int 1 0), (.int 0 0), (.int 0 0), (.int 3 0), (.ref 367), (.bool true), (.int 181 0), (.ref 368), .none, .none, .none, (.ref 369), (.int 655 0), (.int 276 0), (.str "/claim/cut.py" 656)]), #[]⟩) :: (nat_lit 371, ⟨(.type "function"), none, (.func (fnOf "law" "law" (defArgs (top 30)) (defBody (top 30)) (defScope (top 30)) .none .none .none (.str "law_countkin_k16_rooms_looked_at" 555) none (.ref 370) .none)), #[]⟩) :: []
noncomputable def hA : List Addr := (2 :: 3 :: 15 :: 17 :: 18 :: 20 :: 21 :: 22 :: 25 :: 26 :: 27 :: 29 :: 30 :: 32 :: 33 :: 34 :: 36 :: 37 :: 39 :: 40 :: 41 :: 43 :: 44 :: 46 :: 47 :: 48 :: 51 :: 52 :: 53 :: 55 :: 56 :: 58 :: 59 :: 60 :: 67 :: 68 :: 69 :: 70 :: 73 :: 80 :: 81 :: 82 :: 92 :: 94 :: 95 :: 97 :: 98 :: 99 :: 101 :: 102 :: 104 :: 105 :: 106 :: 108 :: 109 :: 111 :: 112 :: 113 :: 115 :: 116 :: 118 :: 119 :: 120 :: 122 :: 123 :: 125 :: 126 :: 127 :: 129 :: 130 :: 132 :: 133 :: 134 :: 136 :: 137 :: 139 :: 140 :: 141 :: 143 :: 144 :: 146 :: 147 :: 148 :: 150 :: 151 :: 153 :: 154 :: 155 :: 157 :: 158 :: 160 :: 161 :: 162 :: 164 :: 165 :: 167 :: 168 :: 169 :: 170 :: 171 :: 172 :: 173 :: 176 :: 183 :: 185 :: 186 :: 188 :: 189 :: 190 :: 192 :: 193 :: 195 :: 196 :: 197 :: 199 :: 200 :: 202 :: 203 :: 204 :: 206 :: 207 :: 209 :: 210 :: 211 :: 213 :: 214 :: 216 :: 217 :: 218 :: 220 :: 221 :: 223 :: 224 :: 225 :: 227 :: 228 :: 230 :: 231 :: 232 :: 235 :: 236 :: 237 :: 239 :: 240 :: 242 :: 243 :: 244 :: 245 :: 246 :: 249 :: 256 :: 258 :: 259 :: 261 :: 262 :: 263 :: 266 :: 267 :: 268 :: 271 :: 272 :: 273 :: 275 :: 276 :: 278 :: 279 :: 280 :: 283 :: 284 :: 285 :: 288 :: 289 :: 290 :: 291 :: 292 :: 295 :: 298 :: 299 :: 300 :: 302 :: 303 :: 305 :: 306 :: 307 :: 310 :: 311 :: 312 :: 314 :: 315 :: 317 :: 318 :: 319 :: 321 :: 322 :: 324 :: 325 :: 326 :: 329 :: 330 :: 331 :: 334 :: 335 :: 336 :: 339 :: 340 :: 341 :: 344 :: 345 :: 346 :: 348 :: 349 :: 351 :: 352 :: 353 :: 355 :: 356 :: 358 :: 359 :: 360 :: 362 :: 363 :: 365 :: 366 :: 367 :: 370 :: 371 :: [])
noncomputable abbrev hX : Shared → Bool := (fun s => xlAt hQ [] s && recOk (RowW.records (OpenRow.toRowW (OpenLaw.row PySem.Challenge.rw_countkin_k16_rooms_looked_at))) s)
theorem hKA : ∀ P : Params, hA = (hK P).map (·.1) := fun _ => by kernel_rfl
noncomputable abbrev hH : Hook := kHook hK hA hKA
noncomputable def hLook (P : Params) (s : Shared) := ((staticsOk (importedModules PySem.Challenge.pw_countkin_k16_rooms_looked_at.main.body) (boot_heap P) s.heap && namesBound PySem.Challenge.pw_countkin_k16_rooms_looked_at s.heap && gensDone s && laidKept (boot_heap P) s.heap), openSeen hQ hL (importedModules PySem.Challenge.pw_countkin_k16_rooms_looked_at.main.body) hX true s, hA.map s.heap.get?)
noncomputable def hPreF (w : World) (os : OsState) := topGo treeTable PySem.Challenge.pw_countkin_k16_rooms_looked_at w 11 (some (.ref 6)) 12 ⟨boot_heap w.params, Array.mk [], boot_drawn, boot_toks, os⟩ (topStub PySem.Challenge.pw_countkin_k16_rooms_looked_at)
noncomputable def hPreG (w : World) (os : OsState) : Option (Shared × Thread) := some ((hS w os).abs, ⟨denote treeTable hC, hC, ⟨0, 0, 0, 0⟩, [topFrame ⟨0, 0, 0, 0⟩]⟩)
noncomputable def hBlkF (w : World) (os : OsState) := segRun treeTable PySem.Challenge.pw_countkin_k16_rooms_looked_at w 11 (some (.ref 6)) 1 1 (hS w os).abs (blockOf hB hE hC ⟨0, 0, 0, 0⟩ [topFrame ⟨0, 0, 0, 0⟩])
noncomputable def hBlkG (w : World) (os : OsState) : Option (Flow × Shared × Code × Pos) := some (.next, (hS w os).abs, hC, ⟨0, 0, 0, 0⟩)
noncomputable def hRunF (w : World) (os : OsState) := (segRunT treeTable PySem.Challenge.pw_countkin_k16_rooms_looked_at w 11 (some (.ref 6)) 1 2490 (hS w os) (piecesOf hB hE hC ⟨0, 0, 0, 0⟩ [topFrame ⟨0, 0, 0, 0⟩])).map (lookEnd treeTable PySem.Challenge.pw_countkin_k16_rooms_looked_at w 11 (some (.ref 6)) ⟨0, 0, 0, 0⟩ hC 2 (hLook w.params))
noncomputable def hRunG (w : World) (_ : OsState) := some (Flow.next, hC, some (true, openGood hQ hL, (hK w.params).map fun p => some p.2))
noncomputable def hSizF (w : World) := ((boot_heap w.params).isNs mainGlobals && (Array.mk [] : Array GenState).size == 0, (boot_heap w.params).objs.size, (boot_heap w.params).nsMap mainGlobals "__annotations__")
noncomputable def hSizG (_ : World) : Bool × Nat × Option Value := (true, 11, (some (.ref 6)))
theorem hSeed : (fun _ _ _ _ _ _ _ _ => true) hPreF hPreG hBlkF hBlkG hRunF hRunG hSizF hSizG = true := by k_qdec
theorem hPre : hPreF = hPreG := Eq.trans PySem.W.Fast.te5317814654954331368 (Eq.trans (by kernel_rfl) (Eq.symm PySem.W.Fast.te14277440360295502494))
theorem hBlk : hBlkF = hBlkG := Eq.trans PySem.W.Fast.te2033988648308832629 (Eq.trans (by kernel_rfl) (Eq.symm PySem.W.Fast.te1798457917166677164))
theorem hRun : hRunF = hRunG := Eq.trans PySem.W.Fast.te6412348297585774662 (Eq.trans (by kernel_rfl) (Eq.symm PySem.W.Fast.te15447895654253735931))
theorem hSiz : hSizF = hSizG := Eq.trans PySem.W.Fast.te13693962943478796877 (by kernel_rfl)
theorem hLeft : LeftO PySem.Challenge.pw_countkin_k16_rooms_looked_at hQ hL hX (Hook.obs hH) (Hook.val hH) 5104 :=
  left_whole (boot_open (by kernel_rfl) (by decide) (fun _ => by kernel_rfl)) (fun w => congrFun hSiz w)
    (fun w os => run_whole (b := hB) (env := hE) (L := hLook w.params) rfl (congrFun (congrFun hPre w) os) (congrFun (congrFun hBlk w) os) (congrFun (congrFun hRun w) os)) (by decide)
end Ck
open PySem PySem.W PyProof.Rows
set_option maxRecDepth 100000 in
set_option maxHeartbeats 0 in
theorem PySem.Challenge.cw_countkin_k16_rooms_looked_at_holds : PySem.Challenge.rw_countkin_k16_rooms_looked_at.Holds := by
  w_on; o_law
  refine holds_open (q := Ck.hQ) (loose := Ck.hL) (Xt := Ck.hX) (XP := XL Ck.hQ []) (Yf := Hook.obs (kHook Ck.hK Ck.hA Ck.hKA)) (Ya := Hook.val (kHook Ck.hK Ck.hA Ck.hKA)) (YP := Hook.says (kHook Ck.hK Ck.hA Ck.hKA)) (N := 5104) Ck.hLeft (Hook.of (kHook Ck.hK Ck.hA Ck.hKA)) (Hook.keeps (kHook Ck.hK Ck.hA Ck.hKA))
    (fun s e => xl_of s (Bool.and_eq_true_iff.mp e).1) XL.keeps (by rfl) (by rfl) (by rfl) (fun s e => recFacts_of (Bool.and_eq_true_iff.mp e).2) (by rfl) (by first | assumption | decide +kernel) (by decide +kernel) ⟨rfl, rfl, rfl, rfl, rfl, by decide +kernel⟩ ?hw ?hc
  case hw => w_witness2
  k_fill
  refine Ck.walk (l := PySem.Challenge.rw_countkin_k16_rooms_looked_at) rfl rfl (fun w h Y => PySem.W.kIn_of Y) ?F
  case F =>
    intro w mg fa h KX G hmg
    refine' Ck.all_mk KX G hmg ?nc_Rooms ?nc_SplitFamily ?nc_Family ?a_Rooms_is_one ?a_Rooms_size_of ?a_Rooms_number_of ?a_Rooms_next_of ?a_Rooms_refuse_other ?ai_Rooms ?ch_SplitFamily___init___Rooms ?cg_SplitFamily___init___Rooms ?cr_SplitFamily___init___Rooms ?ch_Family___init___Rooms ?cg_Family___init___Rooms ?cr_Family___init___Rooms ?a1 ?l1 ?c1 ?k1 ?a2 ?l2 ?c2 ?k2 ?a3 ?l3 ?c3 ?k3 ?a4 ?l4 ?c4 ?k4 ?a5 ?l5 ?c5 ?k5 ?a6 ?l6 ?c6 ?k6 ?a7 ?l7 ?c7 ?k7 ?a8 ?l8 ?c8 ?k8 ?a9 ?l9 ?c9 ?k9 ?a10 ?l10 ?c10 ?k10 ?l11 ?c11 ?k11 ?i11 ?l12 ?c12 ?k12 ?i12 ?l13 ?c13 ?k13 ?i13 ?a14 ?l14 ?c14 ?k14 ?a15 ?l15 ?c15 ?k15 ?a16 ?l16 ?c16 ?k16 ?a17 ?l17 ?c17 ?k17 ?l18 ?c18 ?k18 ?i18 ?l19 ?c19 ?k19 ?i19 ?l20 ?c20 ?k20 ?i20 ?l21 ?c21 ?k21 ?i21 ?a22 ?l22 ?c22 ?k22 ?l23 ?c23 ?k23 ?i23 ?a24 ?l24 ?c24 ?k24 ?pg_Rooms ?hd_Rooms ?po_Rooms ?sa_Rooms ?mk_Rooms ?kc_Rooms ?na_Rooms_word ?na_Rooms_least ?z_range ?z_len ?z_min ?z_list ?z_sorted ?z_zip ?z_sum ?z_isinstance ?z_bool ?z_int ?n_thing ?t_err
    (case nc_Rooms => k_is)
    (case nc_SplitFamily => k_is)
    (case nc_Family => k_is)
    (case a_Rooms_is_one => k_is)
    (case a_Rooms_size_of => k_is)
    (case a_Rooms_number_of => k_is)
    (case a_Rooms_next_of => k_is)
    (case a_Rooms_refuse_other => k_is)
    (case ai_Rooms => k_is)
    (case ch_SplitFamily___init___Rooms => k_is)
    (case cg_SplitFamily___init___Rooms => k_is)
    (case cr_SplitFamily___init___Rooms => k_is)
    (case ch_Family___init___Rooms => k_is)
    (case cg_Family___init___Rooms => k_is)
    (case cr_Family___init___Rooms => k_is)
    (case a1 => k_is)
    (case l1 => k_is)
    (case c1 => k_is)
    (case k1 => k_is)
    (case a2 => k_is)
    (case l2 => k_is)
    (case c2 => k_is)
    (case k2 => k_is)
    (case a3 => k_is)
    (case l3 => k_is)
    (case c3 => k_is)
    (case k3 => k_is)
    (case a4 => k_is)
    (case l4 => k_is)
    (case c4 => k_is)
    (case k4 => k_is)
    (case a5 => k_is)
    (case l5 => k_is)
    (case c5 => k_is)
    (case k5 => k_is)
    (case a6 => k_is)
    (case l6 => k_is)
    (case c6 => k_is)
    (case k6 => k_is)
    (case a7 => k_is)
    (case l7 => k_is)
    (case c7 => k_is)
    (case k7 => k_is)
    (case a8 => k_is)
    (case l8 => k_is)
    (case c8 => k_is)
    (case k8 => k_is)
    (case a9 => k_is)
    (case l9 => k_is)
    (case c9 => k_is)
    (case k9 => k_is)
    (case a10 => k_is)
    (case l10 => k_is)
    (case c10 => k_is)
    (case k10 => k_is)
    (case l11 => k_is)
    (case c11 => k_is)
    (case k11 => k_is)
    (case i11 => k_is)
    (case l12 => k_is)
    (case c12 => k_is)
    (case k12 => k_is)
    (case i12 => k_is)
    (case l13 => k_is)
    (case c13 => k_is)
    (case k13 => k_is)
    (case i13 => k_is)
    (case a14 => k_is)
    (case l14 => k_is)
    (case c14 => k_is)
    (case k14 => k_is)
    (case a15 => k_is)
    (case l15 => k_is)
    (case c15 => k_is)
    (case k15 => k_is)
    (case a16 => k_is)
    (case l16 => k_is)
    (case c16 => k_is)
    (case k16 => k_is)
    (case a17 => k_is)
    (case l17 => k_is)
    (case c17 => k_is)
    (case k17 => k_is)
    (case l18 => k_is)
    (case c18 => k_is)
    (case k18 => k_is)
    (case i18 => k_is)
    (case l19 => k_is)
    (case c19 => k_is)
    (case k19 => k_is)
    (case i19 => k_is)
    (case l20 => k_is)
    (case c20 => k_is)
    (case k20 => k_is)
    (case i20 => k_is)
    (case l21 => k_is)
    (case c21 => k_is)
    (case k21 => k_is)
    (case i21 => k_is)
    (case a22 => k_is)
    (case l22 => k_is)
    (case c22 => k_is)
    (case k22 => k_is)
    (case l23 => k_is)
    (case c23 => k_is)
    (case k23 => k_is)
    (case i23 => k_is)
    (case a24 => k_is)
    (case l24 => k_is)
    (case c24 => k_is)
    (case k24 => k_is)
    (case pg_Rooms => k_is)
    (case hd_Rooms => k_is)
    (case po_Rooms => k_is)
    (case sa_Rooms => k_is)
    (case mk_Rooms => k_is)
    (case kc_Rooms => k_is)
    (case na_Rooms_word => k_is)
    (case na_Rooms_least => k_is)
    (case z_range => k_is)
    (case z_len => k_is)
    (case z_min => k_is)
    (case z_list => k_is)
    (case z_sorted => k_is)
    (case z_zip => k_is)
    (case z_sum => k_is)
    (case z_isinstance => k_is)
    (case z_bool => k_is)
    (case z_int => k_is)
    (case n_thing => k_is)
    (case t_err => kernel_rfl)
