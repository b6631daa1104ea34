import PyProof.Rows.All
import Wide.All
import OpenK.AllK
import Wide.FinOn
import Lean
import PyProof.EqAt
import PyProof.EqKinds
import PyProof.TupleCall
import KE.KMinBuiltin
import KE.KRevSl
import KE.KSortTup
import KE.KTryMore
import Open.Pieces
import OpenK.KQuick
import OpenK.KWalk
import PyProof.EnumMake
import PyProof.ExcAttrAll.ValueError
import PyProof.FitsBits
import PyProof.NeKinds
import PyProof.Rows.SortRuns
import PySem.Challenge.RW_countkin_k25_stairs_and_bows
set_option Elab.async false
set_option linter.all false
set_option maxRecDepth 100000
namespace L2
open PySem PySem.Spec PyProof.Rows
noncomputable abbrev Key := Sum Int Str
noncomputable def keyIs : Key → Value → Bool
  | .inl k, v => Value.isInt k v
  | .inr x, v => Value.isStrOf x v
noncomputable def keyH (w : World) : Key → Int
  | .inl k => hashInt k
  | .inr x => hashStr w x
theorem keyIs_shape : ∀ {k : Key} {v : Value}, keyIs k v = true → (∃ i t, k = Sum.inl i ∧ v = Value.int i t) ∨ (∃ x t, k = Sum.inr x ∧ v = Value.str x t)
  | .inl i, v, h => by
    obtain ⟨t, e⟩ := Value.isInt_shape (k := i) (v := v) h
    exact .inl ⟨i, t, rfl, e⟩
  | .inr x, v, h => by
    obtain ⟨t, e⟩ := Value.isStrOf_shape (x := x) (v := v) h
    exact .inr ⟨x, t, rfl, e⟩
theorem key_ll (a b : Int) : decide ((Sum.inl a : Key) = Sum.inl b) = (a == b) := by
  by_cases e : a = b
  · subst e; simp
  · have h : ¬ (Sum.inl a : Key) = Sum.inl b := fun q => e (Sum.inl.inj q)
    rw [decide_eq_false h]
    exact (beq_eq_false_iff_ne.mpr e).symm
theorem key_rr (a b : Str) : decide ((Sum.inr a : Key) = Sum.inr b) = decide (a = b) := by
  by_cases e : a = b
  · subst e; simp
  · have h : ¬ (Sum.inr a : Key) = Sum.inr b := fun q => e (Sum.inr.inj q)
    rw [decide_eq_false h, decide_eq_false e]
theorem key_lr (a : Int) (b : Str) : decide ((Sum.inl a : Key) = Sum.inr b) = false := decide_eq_false (fun q => nomatch q)
theorem key_rl (a : Str) (b : Int) : decide ((Sum.inr a : Key) = Sum.inl b) = false := decide_eq_false (fun q => nomatch q)
noncomputable def mixKind (prog : Program) (w : World) : PySem.KeyKind prog w Key where
  is := keyIs
  hash := keyH w
  inj := fun v a b ha hb => by
    rcases keyIs_shape ha with ⟨i, t, rfl, rfl⟩ | ⟨x, t, rfl, rfl⟩
    · rcases keyIs_shape hb with ⟨j, u, rfl, e⟩ | ⟨y, u, rfl, e⟩
      · injection e with e1 _; rw [e1]
      · exact nomatch e
    · rcases keyIs_shape hb with ⟨j, u, rfl, e⟩ | ⟨y, u, rfl, e⟩
      · exact nomatch e
      · injection e with e1 _; rw [e1]
  byValue := fun k v h => by
    rcases keyIs_shape h with ⟨i, t, rfl, rfl⟩ | ⟨x, t, rfl, rfl⟩ <;> rfl
  pyHash := fun hv h => by
    rcases keyIs_shape hv with ⟨i, t, rfl, rfl⟩ | ⟨x, t, rfl, rfl⟩
    · exact wpAny_pyHash_int h
    · exact wpAny_pyHash_str h
  eqBool := fun hu hv h => by
    rcases keyIs_shape hu with ⟨i, t, rfl, rfl⟩ | ⟨x, t, rfl, rfl⟩
    · rcases keyIs_shape hv with ⟨j, u, rfl, rfl⟩ | ⟨y, u, rfl, rfl⟩
      · rw [key_ll] at h; exact wpAny_eqBool_int h
      · rw [key_lr] at h; exact SeqAt.EqAt.int_str i t y u _ _ _ _ h
    · rcases keyIs_shape hv with ⟨j, u, rfl, rfl⟩ | ⟨y, u, rfl, rfl⟩
      · rw [key_rl] at h; exact SeqAt.EqAt.str_int x t j u _ _ _ _ h
      · rw [key_rr] at h; exact wpAny_eqBool_str h
  «strs» := fun k x t v h => by
    rcases keyIs_shape h with ⟨i, u, rfl, e⟩ | ⟨y, u, rfl, e⟩
    · exact nomatch e
    · injection e with e1 _
      subst e1
      cases v <;> rfl
end L2
namespace L2
open PySem PySem.Spec PyProof.Rows
inductive V where
  | non | bl (b : Bool) | int (i : Int) | str (x : Str) | byt (b : Array UInt8) | flt (b : UInt64) | ref (a : Addr) | ty (n : String)
  deriving DecidableEq
noncomputable def RelV : V → Value → Prop
  | .non, u => u = Value.none
  | .bl b, u => u = Value.bool b
  | .int i, u => ∃ t, u = Value.int i t
  | .str x, u => ∃ t, u = Value.str x t
  | .byt b, u => ∃ t, u = Value.bytes b t
  | .flt b, u => ∃ t, u = Value.float b t
  | .ref a, u => u = Value.ref a
  | .ty n, u => u = Value.type n
noncomputable abbrev Vals : List V → List Value → Prop := Paired RelV
theorem Vals.length {xs : List V} {us : List Value} (r : Vals xs us) : xs.length = us.length := Paired.length r
theorem Vals.get : ∀ {xs : List V} {us : List Value} {i : Nat} {x : V}, Vals xs us → xs[i]? = some x → ∃ u, us[i]? = some u ∧ RelV x u
  | _, _, _, _, .nil, e => by simp at e
  | _, _, 0, _, .cons r _, e => by simp at e; subst e; exact ⟨_, rfl, r⟩
  | _, _, i + 1, x, .cons _ t, e => by
    obtain ⟨u, h1, h2⟩ := Vals.get (i := i) (x := x) t (by simpa using e)
    exact ⟨u, by simpa using h1, h2⟩
theorem Vals.set {x : V} {u : Value} (r : RelV x u) : ∀ {xs : List V} {us : List Value} (i : Nat), Vals xs us → Vals (xs.set i x) (us.set i u)
  | _, _, _, .nil => .nil
  | _, _, 0, .cons _ t => .cons r t
  | _, _, i + 1, .cons q t => .cons q (Vals.set r i t)
theorem Vals.append : ∀ {xs ys : List V} {us ws : List Value}, Vals xs us → Vals ys ws → Vals (xs ++ ys) (us ++ ws)
  | _, _, _, _, .nil, s => s
  | _, _, _, _, .cons r t, s => .cons r (Vals.append t s)
theorem Vals.take : ∀ {xs : List V} {us : List Value} (n : Nat), Vals xs us → Vals (xs.take n) (us.take n)
  | _, _, 0, _ => .nil
  | _, _, _ + 1, .nil => .nil
  | _, _, n + 1, .cons r t => .cons r (Vals.take n t)
theorem Vals.drop : ∀ {xs : List V} {us : List Value} (n : Nat), Vals xs us → Vals (xs.drop n) (us.drop n)
  | _, _, 0, r => r
  | _, _, _ + 1, .nil => .nil
  | _, _, n + 1, .cons _ t => Vals.drop n t
noncomputable def RelO : Option V → Option Value → Prop
  | some v, some u => RelV v u
  | none, none => True
  | _, _ => False
noncomputable def KV {κ : Type} : List (κ × V) → List (κ × Value) → Prop := Paired fun (p : κ × V) (q : κ × Value) => p.1 = q.1 ∧ RelV p.2 q.2
noncomputable def kV : Key → V
  | .inl i => .int i
  | .inr x => .str x
inductive HO where
  | lst (xs : List V)
  | tup (xs : List V)
  | dK (kvs : List (Key × V)) | dT (kvs : List (List Key × V))
  | set (S : Int → Bool) (n : Nat)
  | ins (C dx : Addr) (fs : List (Str × V))
  | own (x : Addr)
  | xd (fs : List (Str × V))
  | met (f x : Addr)
  | rng (lo hi : Int)
  | frz (o : Obj) (u : HO)
  | tbl (ps : Array Value)
  | ext (φ : Heap → Prop)
noncomputable abbrev Hp := Addr → Option HO
noncomputable def upd (H : Hp) (a : Addr) (o : HO) : Hp := fun b => if b = a then some o else H b
theorem upd_same {H : Hp} {a : Addr} {o : HO} : upd H a o a = some o := by unfold upd; rw [if_pos rfl]
theorem upd_ne {H : Hp} {a b : Addr} {o : HO} (h : b ≠ a) : upd H a o b = H b := by unfold upd; rw [if_neg h]
theorem upd_upd {H : Hp} {a : Addr} {o u : HO} : upd (upd H a o) a u = upd H a u := by
  funext b; unfold upd; split <;> rfl
theorem ne_of {H : Hp} {a b : Addr} {o u : HO} (h : H a = some o) (h' : H b = some u) (d : o ≠ u) : a ≠ b := by
  intro e; subst e; rw [h] at h'; exact d (Option.some.inj h')
theorem ne_of_none {H : Hp} {a b : Addr} {o : HO} (h : H a = some o) (h' : H b = none) : a ≠ b := by
  intro e; subst e; rw [h] at h'; cases h'
section
variable (P : Program) (w : World)
noncomputable def ObjOk (H : Hp) (h : Heap) (a : Addr) : HO → Prop
  | .lst xs => xs.length ≤ sizeLine ∧ ∃ (its : List Value) (n : Nat), Vals xs its ∧ h.get? a = some { cls := .type "list", data := .seq its.toArray n }
  | .tup xs => xs.length ≤ sizeLine ∧ ∃ its : List Value, Vals xs its ∧ IsTup h a its.toArray
  | .dK kvs => kvs.length ≤ sizeLine ∧ (a == sysModules) = false ∧ ∃ vs, KV kvs vs ∧ h.DictOf (mixKind P w) a vs
  | .dT kvs => kvs.length ≤ sizeLine ∧ (a == sysModules) = false ∧ ∃ xs : List (List Key × Addr × Value),
      Paired (fun (p : List Key × V) (q : List Key × Addr × Value) => p.1 = q.1 ∧ H q.2.1 = some (.tup (p.1.map kV)) ∧ RelV p.2 q.2.2) kvs xs ∧
      ∃ o es ep, h.get? a = some o ∧ o.ExactDict ∧ o.data = .dict es ep ∧ es.toList = xs.map (entryOfKey (tupleKind (mixKind P w))) ∧ (xs.map (·.1)).Nodup
  | .set S n => h.SetOf (intKind P w) a S n
  | .ins C dx fs => H dx = some (.own a) ∧ fs.length ≤ 1000 ∧ dx ≠ a ∧ h.get? a = some (PySem.W.instObj C dx) ∧
      ∃ mA, h.Ns1 dx mA ∧ (∀ f, RelO (fs.lookup f) (mA f)) ∧ PySem.Within mA (fs.map (·.1))
  | .own _ => ∃ o, h.get? a = some o
  | .xd fs => ∃ mA, h.Ns1 a mA ∧ ∀ f, RelO (fs.lookup f) (mA f)
  | .rng lo hi => ∃ t u v, h.get? a = some { cls := .type "range", data := .fields #[.int lo t, .int hi u, .int 1 v] }
  | .frz o u => h.get? a = some o ∧ ObjOk H h a u
  | .tbl ps => h.get? a = some { cls := .none, data := .fields ps }
  | .met f x => h.get? a = some (PySem.W.methodObj (.ref f) (.ref x))
  | .ext φ => φ h ∧ (∃ o, h.get? a = some o) ∧ ∀ h1 h2 : Heap, φ h1 → (∀ o, h1.get? a = some o → h2.get? a = some o) → φ h2
noncomputable def HOk (H : Hp) (h : Heap) : Prop := ∀ a o, H a = some o → ObjOk P w H h a o
end
section
variable {P : Program} {w : World} {H H' : Hp} {h h' : Heap} {a : Addr} {o : HO}
theorem ObjOk.lt (x : ObjOk P w H h a o) : a < h.objs.size := by
  cases o with
  | lst xs => obtain ⟨_, _, _, _, e⟩ := x; exact Heap.lt_size e
  | tup xs => obtain ⟨_, _, _, p⟩ := x; exact p.lt
  | dK kvs => obtain ⟨_, _, _, _, o, _, _, e, _⟩ := x; exact Heap.lt_size e
  | dT kvs => obtain ⟨_, _, _, _, o, _, _, e, _⟩ := x; exact Heap.lt_size e
  | set S n => obtain ⟨o, _, _, _, e, _⟩ := x; exact Heap.lt_size e
  | ins C dx fs => obtain ⟨_, _, _, e, _⟩ := x; exact Heap.lt_size e
  | own y => obtain ⟨_, e⟩ := x; exact Heap.lt_size e
  | xd fs => obtain ⟨_, ⟨_, _, _, e, _⟩, _⟩ := x; exact Heap.lt_size e
  | rng lo hi => obtain ⟨_, _, _, e⟩ := x; exact Heap.lt_size e
  | frz ob u => obtain ⟨e, _⟩ := x; exact Heap.lt_size e
  | tbl ps => exact Heap.lt_size (show h.get? a = some _ from x)
  | met f y => exact Heap.lt_size (show h.get? a = some _ from x)
  | ext φ => obtain ⟨_, ⟨_, e⟩, _⟩ := x; exact Heap.lt_size e
theorem Paired.mapP {α β : Type} {F G : α → β → Prop} : ∀ {l₁ : List α} {l₂ : List β}, Paired F l₁ l₂ → (∀ a b, F a b → G a b) → Paired G l₁ l₂
  | _, _, .nil, _ => .nil
  | _, _, .cons r t, f => .cons (f _ _ r) (Paired.mapP t f)
theorem ObjOk.stay (x : ObjOk P w H h a o) (k : ∀ b u, (b = a ∨ H b = some (.own a)) → h.get? b = some u → h'.get? b = some u)
    (ho : ∀ b, H b = some (.own a) → H' b = some (.own a)) (ht : ∀ b xs, H b = some (.tup xs) → H' b = some (.tup xs)) : ObjOk P w H' h' a o := by
  induction o with
  | lst xs => obtain ⟨z, its, n, r, e⟩ := x; exact ⟨z, its, n, r, k _ _ (.inl rfl) e⟩
  | tup xs => obtain ⟨z, its, r, ob, e, c⟩ := x; exact ⟨z, its, r, ob, k _ _ (.inl rfl) e, c⟩
  | dK kvs => obtain ⟨z, y, vs, r, ob, es, ep, e, c⟩ := x; exact ⟨z, y, vs, r, ob, es, ep, k _ _ (.inl rfl) e, c⟩
  | dT kvs =>
    obtain ⟨z, y, xs, r, ob, es, ep, e, c⟩ := x
    exact ⟨z, y, xs, Paired.mapP r fun p q z => ⟨z.1, ht _ _ z.2.1, z.2.2⟩, ob, es, ep, k _ _ (.inl rfl) e, c⟩
  | set S n => obtain ⟨ob, es, ep, t, e, c⟩ := x; exact ⟨ob, es, ep, t, k _ _ (.inl rfl) e, c⟩
  | ins C dx fs =>
    obtain ⟨d, z, ne, e, mA, ⟨od, es, ep, e2, c⟩, r⟩ := x
    exact ⟨ho _ d, z, ne, k _ _ (.inl rfl) e, mA, ⟨od, es, ep, k _ _ (.inr d) e2, c⟩, r⟩
  | own y => obtain ⟨ob, e⟩ := x; exact ⟨ob, k _ _ (.inl rfl) e⟩
  | xd fs => obtain ⟨mA, ⟨od, es, ep, e, c⟩, r⟩ := x; exact ⟨mA, ⟨od, es, ep, k _ _ (.inl rfl) e, c⟩, r⟩
  | rng lo hi => obtain ⟨t, u, v, e⟩ := x; exact ⟨t, u, v, k _ _ (.inl rfl) e⟩
  | frz ob u ih => obtain ⟨e, q⟩ := x; exact ⟨k _ _ (.inl rfl) e, ih q⟩
  | tbl ps =>
    have e : h.get? a = some { cls := .none, data := .fields ps } := x
    show h'.get? a = some { cls := .none, data := .fields ps }
    exact k a _ (.inl rfl) e
  | met f y =>
    have e : h.get? a = some (PySem.W.methodObj (.ref f) (.ref y)) := x
    show h'.get? a = some (PySem.W.methodObj (.ref f) (.ref y))
    exact k a _ (.inl rfl) e
  | ext φ => obtain ⟨p, ⟨o, e⟩, st⟩ := x; exact ⟨st _ _ p fun o q => k _ _ (.inl rfl) q, ⟨o, k _ _ (.inl rfl) e⟩, st⟩
theorem HOk.lt (x : HOk P w H h) (e : H a = some o) : a < h.objs.size := (x a o e).lt
theorem HOk.fresh (x : HOk P w H h) (e : h.objs.size ≤ a) : H a = none := by
  cases q : H a with
  | none => rfl
  | some u => exact absurd (Nat.lt_of_lt_of_le (x.lt q) e) (Nat.lt_irrefl _)
theorem HOk.kept (x : HOk P w H h) (k : ∀ b u, h.get? b = some u → h'.get? b = some u) : HOk P w H h' := fun a o e =>
  (x a o e).stay (fun b u _ q => k b u q) (fun _ q => q) fun _ _ q => q
theorem HOk.laid (x : HOk P w H h) (k : ∀ b u, h.get? b = some u → h'.get? b = some u) (hp : h.objs.size ≤ a) (new : ObjOk P w (upd H a o) h' a o) : HOk P w (upd H a o) h' := fun b u e => by
  have hn := x.fresh hp
  by_cases hb : b = a
  · subst hb; rw [upd_same] at e; cases e; exact new
  · rw [upd_ne hb] at e
    exact (x b u e).stay (fun c v _ q => k c v q) (fun c q => by rw [upd_ne (ne_of_none q hn)]; exact q) fun c xs q => by rw [upd_ne (ne_of_none q hn)]; exact q
end
noncomputable def Rd (H : Hp) (a : Addr) (u : HO) : Prop := H a = some u ∨ ∃ o, H a = some (.frz o u)
theorem Rd.ok {P : Program} {w : World} {H : Hp} {h : Heap} {a : Addr} {u : HO} (r : Rd H a u) (x : HOk P w H h) : ObjOk P w H h a u := by
  rcases r with r | ⟨o, r⟩
  · exact x a u r
  · obtain ⟨_, q⟩ := x a _ r
    exact q
noncomputable def Mut : Option HO → Prop
  | some (.lst _) => True
  | some (.dK _) => True
  | some (.dT _) => True
  | some (.set _ _) => True
  | some (.ins _ _ _) => True
  | some (.ext _) => True
  | _ => False
section
variable {P : Program} {w : World} {H : Hp} {h h' : Heap} {x e : Addr} {o' : HO}
theorem HOk.write (ok : HOk P w H h) (mu : Mut (H x)) (he : e = x ∨ H e = some (.own x)) (k : ∀ b u, b ≠ e → h.get? b = some u → h'.get? b = some u) (heo : ∃ u, h'.get? e = some u)
    (new : ObjOk P w (upd H x o') h' x o') : HOk P w (upd H x o') h' := fun b u q => by
  have nown : ∀ c y, H c = some (.own y) → c ≠ x := fun c y r z => by subst z; rw [r] at mu; exact mu
  have ntup : ∀ c xs, H c = some (.tup xs) → c ≠ x := fun c xs r z => by subst z; rw [r] at mu; exact mu
  by_cases hb : b = x
  · subst hb; rw [upd_same] at q; cases q; exact new
  · rw [upd_ne hb] at q
    by_cases hbe : b = e
    · have q' : H b = some (.own x) := by
        rcases he with z | z
        · exact absurd (hbe.trans z) hb
        · rw [hbe]; exact z
      rw [q] at q'; cases q'
      obtain ⟨v, hv⟩ := heo
      exact ⟨v, by rw [hbe]; exact hv⟩
    · refine (ok b u q).stay (fun c v hc r => k c v ?_ r) (fun c r => by rw [upd_ne (nown c b r)]; exact r) fun c xs r => by rw [upd_ne (ntup c xs r)]; exact r
      rcases hc with rfl | hc
      · exact hbe
      · rintro rfl
        rcases he with z | z
        · exact nown c b hc z
        · rw [hc] at z; cases z; exact hb rfl
end
structure Un (fs ex : List Addr) (H H' : Hp) (h h' : Heap) : Prop where
  keep : ∀ b o, h.get? b = some o → H b = none → b ∉ fs → b ∉ ex → h'.get? b = some o
  slot : ∀ b o, h.get? b = some o → H b = none → b ∈ fs → b ∉ ex → ∃ sl, h'.get? b = some { o with slots := sl }
  free : ∀ b o, h.get? b = some o → H b = none → b ∉ ex → H' b = none
  there : ∀ b o, h.get? b = some o → b ∉ ex → ∃ o', h'.get? b = some o'
  tups : ∀ b xs, H b = some (.tup xs) → H' b = some (.tup xs)
  frzs : ∀ b o u, H b = some (.frz o u) → H' b = some (.frz o u)
  tbls : ∀ b ps, H b = some (.tbl ps) → ∃ more, H' b = some (.tbl (ps ++ more))
section
variable {fs fs' ex ex' : List Addr} {H H1 H2 : Hp} {h h1 h2 h' : Heap} {a x e : Addr} {o : HO}
theorem Un.any (u : Un fs ex H H1 h h1) {b : Addr} {ob : Obj} (q : h.get? b = some ob) (n : H b = none) (hx : b ∉ ex) : ∃ sl, h1.get? b = some { ob with slots := sl } := by
  by_cases hb : b ∈ fs
  · exact u.slot b ob q n hb hx
  · exact ⟨ob.slots, u.keep b ob q n hb hx⟩
theorem Un.kept (k : ∀ b u, h.get? b = some u → h'.get? b = some u) : Un fs ex H H h h' :=
  ⟨fun b ob q _ _ _ => k b ob q, fun b ob q _ _ _ => ⟨ob.slots, k b ob q⟩, fun _ _ _ n _ => n, fun b ob q _ => ⟨ob, k b ob q⟩, fun _ _ q => q, fun _ _ _ q => q, fun _ ps q => ⟨#[], by rw [q]; simp⟩⟩
theorem Un.refl : Un fs ex H H h h := Un.kept fun _ _ q => q
theorem Un.laid (k : ∀ b u, h.get? b = some u → h'.get? b = some u) (hp : h.objs.size ≤ a) (hn : H a = none) : Un fs ex H (upd H a o) h h' where
  keep := fun b u q _ _ _ => k b u q
  slot := fun b u q _ _ _ => ⟨u.slots, k b u q⟩
  free := fun b u q n _ => by rw [upd_ne (Nat.ne_of_lt (Nat.lt_of_lt_of_le (Heap.lt_size q) hp))]; exact n
  there := fun b u q _ => ⟨u, k b u q⟩
  tups := fun b xs q => by rw [upd_ne (ne_of_none q hn)]; exact q
  frzs := fun b u xs q => by rw [upd_ne (ne_of_none q hn)]; exact q
  tbls := fun b ps q => ⟨#[], by rw [upd_ne (ne_of_none q hn), q]; simp⟩
theorem Un.write (mu : Mut (H x)) (he : e = x ∨ H e = some (.own x)) (k : ∀ b u, b ≠ e → h.get? b = some u → h'.get? b = some u) (heo : ∃ u, h'.get? e = some u) : Un fs ex H (upd H x o) h h' := by
  have hx : ∀ b, H b = none → b ≠ x := fun b n z => by subst z; rw [n] at mu; exact mu
  have hb : ∀ b, H b = none → b ≠ e := fun b n z => by
    subst z
    rcases he with r | r
    · exact hx b n r
    · rw [n] at r; cases r
  have hm : ∀ b u, H b = some u → ¬ Mut (some u) → b ≠ x := fun b u q nm z => by subst z; rw [q] at mu; exact nm mu
  refine ⟨fun b u q n _ _ => k b u (hb b n) q, fun b u q n _ _ => ⟨u.slots, k b u (hb b n) q⟩, fun b u q n _ => by rw [upd_ne (hx b n)]; exact n, fun b u q _ => ?_,
    fun b xs q => by rw [upd_ne (hm b _ q fun z => z)]; exact q, fun b u xs q => by rw [upd_ne (hm b _ q fun z => z)]; exact q, fun b ps q => ⟨#[], by rw [upd_ne (hm b _ q fun z => z), q]; simp⟩⟩
  by_cases hbe : b = e
  · subst hbe; exact heo
  · exact ⟨u, k b u hbe q⟩
end
noncomputable def trk (h : Heap) (H : Hp) : List Addr := (List.range h.objs.size).filter fun a => (H a).isSome
noncomputable def hidT (h : Heap) (H : Hp) : Heap := PySem.W.hideAll h (trk h H)
theorem hidT_size (h : Heap) (H : Hp) : (hidT h H).objs.size = h.objs.size := PySem.W.hideAll_size _ _
theorem hidT_get {h : Heap} {H : Hp} {b : Addr} {o : Obj} (e : h.get? b = some o) (n : H b = none) : (hidT h H).get? b = some o :=
  PySem.W.hideAll_get _ e fun hm => by
    have q : (H b).isSome = true := (List.mem_filter.mp hm).2
    rw [n] at q; simp at q
theorem of_hidT {h : Heap} {H : Hp} {b : Addr} {o : Obj} (e : (hidT h H).get? b = some o) : h.get? b = some o ∧ H b = none := by
  have e' : h.get? b = some o := PySem.W.of_hideAll (trk h H) e
  refine ⟨e', ?_⟩
  cases q : H b with
  | none => rfl
  | some x =>
    have hm : b ∈ trk h H := List.mem_filter.mpr ⟨List.mem_range.mpr (Heap.lt_size e'), by simp [q]⟩
    have z : (hidT h H).get? b = none := PySem.W.hideAll_none (trk h H) hm
    rw [z] at e; cases e
noncomputable def allNews (g h : Heap) (L : Addr) : List (Addr × Obj) := (List.range h.objs.size).filterMap fun a => if a = L ∨ (g.get? a).isSome = true then none else (h.get? a).map fun o => (a, o)
noncomputable def rest (g h : Heap) (L d : Addr) : List (Addr × Obj) := (allNews g h L).filter fun p => decide (p.1 ≠ d)
end L2
namespace L2
open PySem PySem.Spec PyProof.Rows
structure Mod (K : PySem.W.Frag) (mg : Str → Option Value) (base : Heap) : Prop where
  kin : K.In base
  glob : base.Ns mainGlobals mg
  blt : ∃ mb, base.Ns builtinsNs mb ∧ ∀ x : Str, x ≠ "__name__" → mb x = bootBuiltins x
  nolimit : base.NoLimit
structure Cx where
  prog : Program
  w : World
  K : PySem.W.Frag
  mg : Str → Option Value
  base : Heap
  A : Around
  N : List Str
  s₀ : Shared
  H₀ : Hp
  env : Env
  outer : List Env
  stack : List Env
  ex : List Addr
  fn : Str → Bool
  calm : Bool
  pn : List (Addr × Obj)
  xe : Value → Shared → Prop
noncomputable def frs (l : List Env) : List Addr := l.filterMap (·.frame)
noncomputable abbrev Cx.fs (X : Cx) : List Addr := frs X.outer
noncomputable def Vis (sc : Scope) (x : Str) : Prop := sc.names.lookup x = some .local ∨ sc.names.lookup x = some .cell ∨ sc.names.lookup x = some .free
noncomputable def Loc (sc : Scope) (x : Str) : Prop := sc.names.lookup x = some .local ∨ sc.names.lookup x = some .cell
noncomputable def Look (env : Env) (h : Heap) (m : Str → Option Value) (x : Str) (u : Value) : Prop :=
  (env.kindOf x = some .local ∧ m x = some u) ∨ ((env.kindOf x = some .cell ∨ env.kindOf x = some .free) ∧ ∃ c, env.cells.lookup x = some c ∧ h.IsCell c (some u))
structure Cx.Ok (X : Cx) : Prop where
  mod : Mod X.K X.mg X.base
  kind : X.env.scope.kind = .function
  glob : X.env.globals = mainGlobals
  blt : X.env.builtins = builtinsNs
  above : X.s₀.heap.objs.size ≤ X.env.locals
  inj : ∀ x y c, X.env.cells.lookup x = some c → X.env.cells.lookup y = some c → x = y
  has : ∀ x, (X.env.kindOf x = some .cell ∨ X.env.kindOf x = some .free) → ∃ c, X.env.cells.lookup x = some c
  cab : ∀ x c, X.fn x = true → X.env.cells.lookup x = some c → X.s₀.heap.objs.size ≤ c
  hd : X.calm = true → X.A.handled = none
  frames : X.A.frames = some X.stack
  stk : X.stack = X.outer ∨ (X.stack = X.env :: X.outer ∧ X.env.frame = some X.env.locals)
  exf : ∀ b ∈ X.ex, b ≠ X.env.locals ∧ ∀ x c, X.env.cells.lookup x = some c → c ≠ b
  bs : ∀ b o, X.base.get? b = some o → X.s₀.heap.get? b = some o ∧ X.H₀ b = none
  bsz : X.base.objs.size ≤ X.s₀.heap.objs.size
  noex : ∀ b o, X.base.get? b = some o → b ∉ X.ex
  exfs : ∀ b ∈ X.ex, b ∉ X.fs
  funs : X.s₀.heap.FunFrames X.base X.outer
  frf : ∀ b ∈ X.fs, X.H₀ b = none
structure Inv (X : Cx) (pins : List (Addr × Obj)) (σ : List (Option V)) (H : Hp) (s : Shared) : Prop where
  ok : X.Ok
  os : s.os = X.s₀.os
  bare : AllBare s.gens
  base : Un X.fs X.ex X.H₀ H X.s₀.heap s.heap
  loc : ∃ m, s.heap.Ns X.env.locals m ∧ ∀ (i : Nat) (x : Str) (v : V), X.N[i]? = some x → σ[i]? = some (some v) → Vis X.env.scope x → ∃ u, RelV v u ∧ Look X.env s.heap m x u
  cell : ∀ x c, X.env.cells.lookup x = some c → ∃ v, s.heap.IsCell c v
  free : H X.env.locals = none
  freeC : ∀ x c, X.env.cells.lookup x = some c → H c = none
  pin : ∀ p ∈ X.pn ++ pins, s.heap.get? p.1 = some p.2 ∧ H p.1 = none ∧ p.1 ≠ X.env.locals ∧ p.1 ∉ X.fs ∧ ∀ v, p.2.data ≠ .cell v
  hok : HOk X.prog X.w H s.heap
  len : σ.length = X.N.length
section
variable {X : Cx} {pins : List (Addr × Obj)} {σ : List (Option V)} {H H' : Hp} {s : Shared} {h' : Heap}
theorem Cx.Ok.nofr (ok : X.Ok) {b : Addr} {o : Obj} (e : X.base.get? b = some o) : b ∉ X.fs := fun hb => by
  have := (ok.funs.mem hb).1
  rw [e] at this; cases this
theorem Inv.bs (I : Inv X pins σ H s) : ∀ b o, X.base.get? b = some o → s.heap.get? b = some o ∧ H b = none := fun b o e =>
  ⟨I.base.keep b o (I.ok.bs b o e).1 (I.ok.bs b o e).2 (I.ok.nofr e) (I.ok.noex b o e), I.base.free b o (I.ok.bs b o e).1 (I.ok.bs b o e).2 (I.ok.noex b o e)⟩
theorem Inv.bk (I : Inv X pins σ H s) : ∀ b o, X.base.get? b = some o → s.heap.get? b = some o := fun b o e => (I.bs b o e).1
theorem Inv.mod (I : Inv X pins σ H s) : Mod X.K X.mg X.base := I.ok.mod
theorem Inv.kIn (I : Inv X pins σ H s) : X.K.In s.heap := I.ok.mod.kin.keeps I.bk
theorem Inv.fr (I : Inv X pins σ H s) : ∃ m, Fr X.base X.env.locals s.heap m :=
  let ⟨m, hn, _⟩ := I.loc
  ⟨m, hn, I.bk, Nat.le_trans I.ok.bsz I.ok.above⟩
theorem Inv.lt (I : Inv X pins σ H s) : X.env.locals < s.heap.objs.size := let ⟨_, hn, _⟩ := I.loc; hn.lt
theorem Inv.sz (I : Inv X pins σ H s) : X.s₀.heap.objs.size ≤ s.heap.objs.size := Nat.le_trans I.ok.above (Nat.le_of_lt I.lt)
theorem Inv.nofs (I : Inv X pins σ H s) {a : Addr} (h : s.heap.objs.size ≤ a) : a ∉ X.fs := fun hb => by
  obtain ⟨_, o, ho, _⟩ := I.ok.funs.mem hb
  exact absurd (Nat.lt_of_lt_of_le (Heap.lt_size ho) (Nat.le_trans I.sz h)) (Nat.lt_irrefl _)
theorem Inv.cne (I : Inv X pins σ H s) : ∀ x c, X.env.cells.lookup x = some c → c ≠ X.env.locals := fun x c e z => by
  obtain ⟨v, o, ho, hd⟩ := I.cell x c e
  obtain ⟨m, ⟨o', es, ep, ho', hd', _⟩, _⟩ := I.loc
  rw [z, ho'] at ho; cases ho; rw [hd'] at hd; cases hd
theorem Inv.funs (I : Inv X pins σ H s) : s.heap.FunFrames X.base X.outer := by
  have all : ∀ (l : List Env), (∀ b ∈ frs l, b ∈ X.fs) → X.s₀.heap.FunFrames X.base l → s.heap.FunFrames X.base l := by
    intro l
    induction l with
    | nil => intro _ _; trivial
    | cons env r ih =>
      intro hs hl
      obtain ⟨hk, ⟨L, o, hf, hn, ho, hd⟩, hr⟩ := hl
      have hL : L ∈ X.fs := hs L (by unfold frs; rw [List.filterMap_cons, hf]; exact List.mem_cons_self)
      obtain ⟨sl, e⟩ := I.base.slot L o ho (I.ok.frf L hL) hL fun z => I.ok.exfs L z hL
      exact ⟨hk, ⟨L, _, hf, hn, e, hd⟩, ih (fun b hb => hs b (by unfold frs; rw [List.filterMap_cons, hf]; exact List.mem_cons_of_mem _ hb)) hr⟩
  exact all X.outer (fun _ hb => hb) I.ok.funs
theorem Inv.stack (I : Inv X pins σ H s) : s.heap.FunFrames X.base X.stack := by
  rcases I.ok.stk with e | ⟨e, hf⟩
  · rw [e]; exact I.funs
  · rw [e]
    obtain ⟨m, hn, _⟩ := I.loc
    refine .cons (by rw [I.ok.kind]; decide) hf hn ?_ I.funs
    exact Heap.get?_none_of_le (Nat.le_trans I.ok.bsz I.ok.above)
theorem Inv.stkSub (I : Inv X pins σ H s) : ∀ b ∈ frs X.stack, b ∈ X.env.locals :: X.fs := fun b hb => by
  rcases I.ok.stk with e | ⟨e, hf⟩
  · rw [e] at hb; exact List.mem_cons_of_mem _ hb
  · rw [e] at hb
    unfold frs at hb
    rw [List.filterMap_cons, hf] at hb
    exact hb
theorem Inv.stkFree (I : Inv X pins σ H s) : ∀ b ∈ frs X.stack, H b = none := fun b hb => by
  rcases List.mem_cons.mp (I.stkSub b hb) with e | hb
  · rw [e]; exact I.free
  · obtain ⟨_, o, ho, _⟩ := I.ok.funs.mem hb
    exact I.base.free b o ho (I.ok.frf b hb) fun z => I.ok.exfs b z hb
theorem Inv.step {g' : Array GenState} {t' : Nat} {d' : Drawn} {ch : List Addr} (I : Inv X pins σ H s)
    (hch : ∀ b ∈ ch, (b ∈ X.ex ∨ X.s₀.heap.objs.size ≤ b) ∧ b ≠ X.env.locals ∧ (∀ x c, X.env.cells.lookup x = some c → c ≠ b) ∧ ∀ p ∈ X.pn ++ pins, p.1 ≠ b)
    (keep : ∀ b o, b ≠ X.env.locals → b ∉ X.fs → b ∉ ch → s.heap.get? b = some o → H b = none → h'.get? b = some o)
    (slot : ∀ b o, b ≠ X.env.locals → b ∈ X.fs → b ∉ ch → s.heap.get? b = some o → H b = none → ∃ sl, h'.get? b = some { o with slots := sl }) (free : ∀ b o, b ∉ ch → s.heap.get? b = some o → H b = none → H' b = none)
    (there : ∀ b o, b ∉ ch → s.heap.get? b = some o → ∃ o', h'.get? b = some o')
    (tups : ∀ b xs, H b = some (.tup xs) → H' b = some (.tup xs)) (frzs : ∀ b o u, H b = some (.frz o u) → H' b = some (.frz o u)) (tbls : ∀ b ps, H b = some (.tbl ps) → ∃ more, H' b = some (.tbl (ps ++ more)))
    (ns : ∀ m, s.heap.Ns X.env.locals m → h'.Ns X.env.locals m) (hok : HOk X.prog X.w H' h') (hg : AllBare g') :
    Inv X pins σ H' { s with heap := h', gens := g', drawn := d', toks := t' } := by
  have neL : ∀ b o, X.s₀.heap.get? b = some o → b ≠ X.env.locals := fun b o e => Nat.ne_of_lt (Nat.lt_of_lt_of_le (Heap.lt_size e) I.ok.above)
  have neC : ∀ b o, X.s₀.heap.get? b = some o → b ∉ X.ex → b ∉ ch := fun b o e hx hb => by
    rcases (hch b hb).1 with z | z
    · exact hx z
    · exact absurd (Nat.lt_of_lt_of_le (Heap.lt_size e) z) (Nat.lt_irrefl _)
  have cellK : ∀ x c, X.env.cells.lookup x = some c → ∀ v, s.heap.IsCell c v → h'.IsCell c v := fun x c e v ⟨o, ho, hd⟩ => by
    have nch : c ∉ ch := fun z => (hch c z).2.2.1 x c e rfl
    by_cases hc : c ∈ X.fs
    · obtain ⟨sl, q⟩ := slot c o (I.cne x c e) hc nch ho (I.freeC x c e)
      exact ⟨_, q, hd⟩
    · exact ⟨o, keep c o (I.cne x c e) hc nch ho (I.freeC x c e), hd⟩
  refine ⟨I.ok, I.os, hg, ⟨fun b o e n hb hx => ?_, fun b o e n hb hx => ?_, fun b o e n hx => ?_, fun b o e hx => ?_, fun b xs e => tups b xs (I.base.tups b xs e), fun b o xs e => frzs b o xs (I.base.frzs b o xs e), fun b ps e => ?_⟩, ?_, fun x c e => ?_, ?_, fun x c e => ?_, fun p hp => ?_, hok, I.len⟩
  · exact keep b o (neL b o e) hb (neC b o e hx) (I.base.keep b o e n hb hx) (I.base.free b o e n hx)
  · obtain ⟨sl, e1⟩ := I.base.slot b o e n hb hx
    obtain ⟨sl', e2⟩ := slot b _ (neL b o e) hb (neC b o e hx) e1 (I.base.free b o e n hx)
    exact ⟨sl', e2⟩
  · obtain ⟨o', e1⟩ := I.base.there b o e hx
    exact free b o' (neC b o e hx) e1 (I.base.free b o e n hx)
  · obtain ⟨o', e1⟩ := I.base.there b o e hx
    exact there b o' (neC b o e hx) e1
  · obtain ⟨m1, e1⟩ := I.base.tbls b ps e
    obtain ⟨m2, e2⟩ := tbls b _ e1
    exact ⟨m1 ++ m2, by rw [e2, Array.append_assoc]⟩
  · obtain ⟨m, hn, hl⟩ := I.loc
    refine ⟨m, ns m hn, fun i x v e1 e2 e3 => ?_⟩
    obtain ⟨u, r, l⟩ := hl i x v e1 e2 e3
    refine ⟨u, r, ?_⟩
    rcases l with l | ⟨k, c, e, z⟩
    · exact .inl l
    · exact .inr ⟨k, c, e, cellK x c e _ z⟩
  · obtain ⟨v, z⟩ := I.cell x c e
    exact ⟨v, cellK x c e v z⟩
  · obtain ⟨m, ⟨o, _, _, ho, _⟩, _⟩ := I.loc
    exact free _ o (fun z => (hch _ z).2.1 rfl) ho I.free
  · obtain ⟨v, o, ho, hd⟩ := I.cell x c e
    exact free c o (fun z => (hch c z).2.2.1 x c e rfl) ho (I.freeC x c e)
  · obtain ⟨e, n, ne, nf, d⟩ := I.pin p hp
    have nch : p.1 ∉ ch := fun z => (hch p.1 z).2.2.2 p hp rfl
    exact ⟨keep p.1 p.2 ne nf nch e n, free p.1 p.2 nch e n, ne, nf, d⟩
theorem Inv.un {t' : Nat} (I : Inv X pins σ H s) (u : Un X.fs [] H H' s.heap h') (hok : HOk X.prog X.w H' h') : Inv X pins σ H' { s with heap := h', toks := t' } := by
  obtain ⟨m, ⟨o, es, ep, ho, r⟩, _⟩ := id I.loc
  obtain ⟨sl, hL⟩ := u.any ho I.free (by simp)
  exact I.step (g' := s.gens) (d' := s.drawn) (ch := []) (fun _ z => nomatch z) (fun b o _ hb _ e n => u.keep b o e n hb (by simp)) (fun b o _ hb _ e n => u.slot b o e n hb (by simp)) (fun b o _ e n => u.free b o e n (by simp)) (fun b o _ e => u.there b o e (by simp)) u.tups u.frzs u.tbls (fun m' hm => by
    obtain ⟨o', es', ep', ho', r'⟩ := hm
    rw [ho] at ho'; cases ho'
    exact ⟨_, es', ep', hL, r'⟩) hok I.bare
theorem Inv.call {g' : Array GenState} {t' : Nat} {d' : Drawn} {ch : List Addr} (I : Inv X pins σ H s) (u : Un (frs X.stack) ch H H' s.heap h') (hok : HOk X.prog X.w H' h') (hg : AllBare g')
    (hch : ∀ b ∈ ch, (b ∈ X.ex ∨ X.s₀.heap.objs.size ≤ b) ∧ b ≠ X.env.locals ∧ (∀ x c, X.env.cells.lookup x = some c → c ≠ b) ∧ ∀ p ∈ X.pn ++ pins, p.1 ≠ b) :
    Inv X pins σ H' { s with heap := h', gens := g', drawn := d', toks := t' } := by
  obtain ⟨m, ⟨o, es, ep, ho, r⟩, _⟩ := id I.loc
  obtain ⟨sl, hL⟩ := u.any ho I.free fun z => (hch _ z).2.1 rfl
  exact I.step (ch := ch) hch (fun b o hL hb hc e n => u.keep b o e n (fun z => (List.mem_cons.mp (I.stkSub b z)).elim hL hb) hc) (fun b o _ _ hc e n => u.any e n hc) (fun b o hc e n => u.free b o e n hc) (fun b o hc e => u.there b o e hc) u.tups u.frzs u.tbls (fun m' hm => by
    obtain ⟨o', es', ep', ho', r'⟩ := hm
    rw [ho] at ho'; cases ho'
    exact ⟨_, es', ep', hL, r'⟩) hok hg
theorem Inv.turned {t' : Nat} {it : Addr} (I : Inv X pins σ H s) (k : ∀ b o, b ≠ it → s.heap.get? b = some o → h'.get? b = some o) (hn : H it = none) (hL : it ≠ X.env.locals)
    (h1 : it ∈ X.ex ∨ X.s₀.heap.objs.size ≤ it) (h2 : ∀ x c, X.env.cells.lookup x = some c → c ≠ it) (h3 : ∀ p ∈ X.pn ++ pins, p.1 ≠ it) : Inv X pins σ H { s with heap := h', toks := t' } := by
  have nit : ∀ b u, H b = some u → b ≠ it := fun b u e z => by rw [z, hn] at e; cases e
  refine I.step (g' := s.gens) (d' := s.drawn) (ch := [it]) (fun b hb => ?_) (fun b o _ _ hc e _ => k b o (fun z => hc (by simp [z])) e) (fun b o _ _ hc e _ => ⟨o.slots, k b o (fun z => hc (by simp [z])) e⟩) (fun _ _ _ _ n => n)
    (fun b o hc e => ⟨o, k b o (fun z => hc (by simp [z])) e⟩) (fun _ _ e => e) (fun _ _ _ e => e) (fun b ps e => ⟨#[], by rw [e]; simp⟩) (fun m hm => ?_) (fun b u e => ?_) I.bare
  · have e : b = it := by simpa using hb
    subst e
    exact ⟨h1, hL, h2, h3⟩
  · obtain ⟨o, es, ep, ho, r⟩ := hm
    exact ⟨o, es, ep, k _ o (Ne.symm hL) ho, r⟩
  · refine (I.hok b u e).stay (fun c v hc q => k c v ?_ q) (fun _ q => q) fun _ _ q => q
    rcases hc with z | z
    · rw [z]; exact nit b u e
    · exact nit c _ z
theorem Inv.tok (I : Inv X pins σ H s) (t : Nat) : Inv X pins σ H { s with toks := t } := I.un (h' := s.heap) (t' := t) Un.refl I.hok
theorem Inv.kept {t' : Nat} (I : Inv X pins σ H s) (k : ∀ b u, s.heap.get? b = some u → h'.get? b = some u) : Inv X pins σ H { s with heap := h', toks := t' } := I.un (Un.kept k) (I.hok.kept k)
theorem Inv.laid {a : Addr} {o : HO} {t' : Nat} (I : Inv X pins σ H s) (k : ∀ b u, s.heap.get? b = some u → h'.get? b = some u) (hp : s.heap.objs.size ≤ a) (new : ObjOk X.prog X.w (upd H a o) h' a o) :
    Inv X pins σ (upd H a o) { s with heap := h', toks := t' } := I.un (Un.laid k hp (I.hok.fresh hp)) (I.hok.laid k hp new)
theorem Inv.write {x e : Addr} {o : HO} {t' : Nat} (I : Inv X pins σ H s) (mu : Mut (H x)) (he : e = x ∨ H e = some (.own x)) (k : ∀ b u, b ≠ e → s.heap.get? b = some u → h'.get? b = some u) (heo : ∃ u, h'.get? e = some u)
    (new : ObjOk X.prog X.w (upd H x o) h' x o) : Inv X pins σ (upd H x o) { s with heap := h', toks := t' } := I.un (Un.write mu he k heo) (I.hok.write mu he k heo new)
theorem Inv.weak {σ' : List (Option V)} (I : Inv X pins σ H s) (hl : σ'.length = σ.length) (w : ∀ (i : Nat) v, σ'[i]? = some (some v) → σ[i]? = some (some v)) : Inv X pins σ' H s :=
  ⟨I.ok, I.os, I.bare, I.base, let ⟨m, hn, hl'⟩ := I.loc; ⟨m, hn, fun i x v e1 e2 e3 => hl' i x v e1 (w i v e2) e3⟩, I.cell, I.free, I.freeC, I.pin, I.hok, hl.trans I.len⟩
theorem Inv.pins_of {pins' : List (Addr × Obj)} (I : Inv X pins σ H s) (h : ∀ p ∈ pins', s.heap.get? p.1 = some p.2 ∧ H p.1 = none ∧ p.1 ≠ X.env.locals ∧ p.1 ∉ X.fs ∧ ∀ v, p.2.data ≠ .cell v) : Inv X pins' σ H s :=
  ⟨I.ok, I.os, I.bare, I.base, I.loc, I.cell, I.free, I.freeC, fun p hp => (List.mem_append.mp hp).elim (fun z => I.pin p (List.mem_append_left _ z)) (h p), I.hok, I.len⟩
theorem nodup_ix {N : List Str} (hN : N.Nodup) {i j : Nat} {x : Str} (a : N[i]? = some x) (b : N[j]? = some x) : i = j := by
  obtain ⟨h1, e1⟩ := List.getElem?_eq_some_iff.mp a
  obtain ⟨h2, e2⟩ := List.getElem?_eq_some_iff.mp b
  exact (List.getElem_inj hN).mp (e1.trans e2.symm)
theorem store_ok2 {M : Model} {A : Around} {E : Value → Shared → Prop} {i : Nat} {x : Str} {v : V} {u : Value} {Q : Unit → Shared → Prop} (I : Inv X pins σ H s) (hN : X.N.Nodup) (hi : X.N[i]? = some x) (hx : Loc X.env.scope x) (r : RelV v u)
    (h : ∀ s', Inv X pins (σ.set i (some v)) H s' → (∃ a, Heap.SameBut a s.heap s'.heap ∧ (a = X.env.locals ∨ X.env.cells.lookup x = some a)) → Q () s') (hf : X.fn x = true ∨ X.env.scope.names.lookup x = some .local := by first | exact .inl rfl | exact .inr rfl | assumption) : wpAny M A (storeName X.env x u) Q E s := by
  obtain ⟨m, hn, hl⟩ := id I.loc
  have hcls : (X.env.scope.kind == .class || (X.env.scope.kind == .module && X.env.locals != X.env.globals)) = false := by rw [I.ok.kind]; rfl
  have hiσ : i < σ.length := by rw [I.len]; exact (List.getElem?_eq_some_iff.mp hi).1
  have cne := I.cne
  have tracked : ∀ {a : Addr} {h' : Heap}, (∃ o, s.heap.get? a = some o ∧ H a = none) → Heap.SameBut a s.heap h' → HOk X.prog X.w H h' := fun {a h'} ha hs b ob e => by
    obtain ⟨_, _, hfree⟩ := ha
    refine (I.hok b ob e).stay (fun c w' hc q => (hs.2 c ?_).trans q) (fun _ q => q) fun _ _ q => q
    rintro rfl
    rcases hc with rfl | hc
    · rw [hfree] at e; cases e
    · rw [hfree] at hc; cases hc
  rcases hx with hk | hk
  · refine wpAny_storeName_local hk hn (fun h' hn' hs => ?_) hcls
    obtain ⟨oL, _, _, hoL, _⟩ := id hn
    refine h _ ⟨I.ok, I.os, I.bare, ⟨fun b o e n hb hx => ?_, fun b o e n hb hx => ?_, I.base.free, fun b o e hx => ?_, I.base.tups, I.base.frzs, I.base.tbls⟩, ⟨_, hn', fun j y v' e1 e2 e3 => ?_⟩, fun y c e => ?_, I.free, I.freeC, fun p hp => ?_, tracked ⟨oL, hoL, I.free⟩ hs, by simpa using I.len⟩ ⟨_, hs, .inl rfl⟩
    · exact (hs.2 b (Nat.ne_of_lt (Nat.lt_of_lt_of_le (Heap.lt_size e) I.ok.above))).trans (I.base.keep b o e n hb hx)
    · obtain ⟨sl, e1⟩ := I.base.slot b o e n hb hx
      exact ⟨sl, (hs.2 b (Nat.ne_of_lt (Nat.lt_of_lt_of_le (Heap.lt_size e) I.ok.above))).trans e1⟩
    · obtain ⟨o', e1⟩ := I.base.there b o e hx
      exact ⟨o', (hs.2 b (Nat.ne_of_lt (Nat.lt_of_lt_of_le (Heap.lt_size e) I.ok.above))).trans e1⟩
    · by_cases hj : j = i
      · subst hj
        rw [hi] at e1; cases e1
        rw [List.getElem?_set_self hiσ] at e2
        cases e2
        exact ⟨u, r, .inl ⟨hk, by simp⟩⟩
      · rw [List.getElem?_set_ne (Ne.symm hj)] at e2
        obtain ⟨u', r', q⟩ := hl j y v' e1 e2 e3
        refine ⟨u', r', ?_⟩
        rcases q with ⟨k, e⟩ | ⟨k, c, e, z⟩
        · refine .inl ⟨k, ?_⟩
          have : y ≠ x := fun e => hj (nodup_ix hN e1 (e ▸ hi))
          simp [this, e]
        · exact .inr ⟨k, c, e, z.sameBut hs (cne y c e)⟩
    · obtain ⟨w', z⟩ := I.cell y c e
      exact ⟨w', z.sameBut hs (cne y c e)⟩
    · obtain ⟨e, n, ne, nf, d⟩ := I.pin p hp
      exact ⟨(hs.2 p.1 ne).trans e, n, ne, nf, d⟩
  · have hfn : X.fn x = true := by
      rcases hf with z | z
      · exact z
      · rw [z] at hk; cases hk
    obtain ⟨c, hc⟩ := I.ok.has x (.inl hk)
    obtain ⟨w', z⟩ := I.cell x c hc
    refine wpAny_storeName_cell I.ok.kind hk hc z (fun h' hc' hs => ?_)
    obtain ⟨oc, hoc, hocd⟩ := id z
    refine h { s with heap := h' } ⟨I.ok, I.os, I.bare, ⟨fun b o e n hb hx => ?_, fun b o e n hb hx => ?_, I.base.free, fun b o e hx => ?_, I.base.tups, I.base.frzs, I.base.tbls⟩, ⟨m, hn.sameBut hs (Ne.symm (cne x c hc)), fun j y v' e1 e2 e3 => ?_⟩, fun y c' e => ?_, I.free, I.freeC, fun p hp => ?_, tracked ⟨oc, hoc, I.freeC x c hc⟩ hs, by simpa using I.len⟩ ⟨c, hs, .inr hc⟩
    · exact (hs.2 b (Nat.ne_of_lt (Nat.lt_of_lt_of_le (Heap.lt_size e) (I.ok.cab x c hfn hc)))).trans (I.base.keep b o e n hb hx)
    · obtain ⟨sl, e1⟩ := I.base.slot b o e n hb hx
      exact ⟨sl, (hs.2 b (Nat.ne_of_lt (Nat.lt_of_lt_of_le (Heap.lt_size e) (I.ok.cab x c hfn hc)))).trans e1⟩
    · obtain ⟨o', e1⟩ := I.base.there b o e hx
      exact ⟨o', (hs.2 b (Nat.ne_of_lt (Nat.lt_of_lt_of_le (Heap.lt_size e) (I.ok.cab x c hfn hc)))).trans e1⟩
    · by_cases hj : j = i
      · subst hj
        rw [hi] at e1; cases e1
        rw [List.getElem?_set_self hiσ] at e2
        cases e2
        exact ⟨u, r, .inr ⟨.inl hk, c, hc, hc'⟩⟩
      · rw [List.getElem?_set_ne (Ne.symm hj)] at e2
        obtain ⟨u', r', q⟩ := hl j y v' e1 e2 e3
        refine ⟨u', r', ?_⟩
        rcases q with q | ⟨k, c', e, z'⟩
        · exact .inl q
        · refine .inr ⟨k, c', e, z'.sameBut hs ?_⟩
          rintro rfl
          exact hj (nodup_ix hN e1 (I.ok.inj _ _ _ e hc ▸ hi))
    · by_cases hcc : c' = c
      · subst hcc; exact ⟨_, hc'⟩
      · obtain ⟨w2, z2⟩ := I.cell y c' e
        exact ⟨w2, z2.sameBut hs hcc⟩
    · obtain ⟨e, n, ne, nf, d⟩ := I.pin p hp
      refine ⟨(hs.2 p.1 ?_).trans e, n, ne, nf, d⟩
      intro q
      rw [q, hoc] at e
      have q' : oc = p.2 := Option.some.inj e
      exact d w' (by rw [← q']; exact hocd)
theorem store_ok {M : Model} {A : Around} {E : Value → Shared → Prop} {i : Nat} {x : Str} {v : V} {u : Value} {Q : Unit → Shared → Prop} (I : Inv X pins σ H s) (hN : X.N.Nodup) (hi : X.N[i]? = some x) (hx : Loc X.env.scope x) (r : RelV v u)
    (h : ∀ s', Inv X pins (σ.set i (some v)) H s' → Q () s') (hf : X.fn x = true ∨ X.env.scope.names.lookup x = some .local := by first | exact .inl rfl | exact .inr rfl | assumption) : wpAny M A (storeName X.env x u) Q E s :=
  store_ok2 I hN hi hx r (fun s' I' _ => h s' I') hf
theorem Inv.call' {s' : Shared} {ch : List Addr} (I : Inv X pins σ H s) (ho : s'.os = s.os) (u : Un (frs X.stack) ch H H' s.heap s'.heap) (hok : HOk X.prog X.w H' s'.heap) (hg : AllBare s'.gens)
    (hch : ∀ b ∈ ch, (b ∈ X.ex ∨ X.s₀.heap.objs.size ≤ b) ∧ b ≠ X.env.locals ∧ (∀ x c, X.env.cells.lookup x = some c → c ≠ b) ∧ ∀ p ∈ X.pn ++ pins, p.1 ≠ b) : Inv X pins σ H' s' := by
  obtain ⟨h', g', d', t', o'⟩ := s'
  have e : o' = s.os := ho
  subst e
  exact I.call (g' := g') (t' := t') (d' := d') u hok hg hch
end
noncomputable abbrev XK := Value → Option Addr → Hp → Prop
noncomputable abbrev St := List (Option V)
noncomputable abbrev VK := V → Hp → Prop
noncomputable abbrev TE := St → Hp → VK → Prop
noncomputable abbrev TT := St → Hp → (Bool → Hp → Prop) → Prop
noncomputable abbrev TA := St → Hp → (List V → Hp → Prop) → Prop
structure Ends where
  nx : St → Hp → Prop
  rt : VK
  bk : St → Hp → Prop := fun _ _ => False
  ct : St → Hp → Prop := fun _ _ => False
noncomputable abbrev TS := Ends → St → Hp → Prop
noncomputable def EP (X : Cx) (pins : List (Addr × Obj)) (σ : St) (Q : VK) (u : Value) (s' : Shared) : Prop := ∃ v H', Inv X pins σ H' s' ∧ RelV v u ∧ Q v H'
noncomputable def TP (X : Cx) (pins : List (Addr × Obj)) (σ : St) (Q : Bool → Hp → Prop) (b : Bool) (s' : Shared) : Prop := ∃ H', Inv X pins σ H' s' ∧ Q b H'
noncomputable def AP (X : Cx) (pins : List (Addr × Obj)) (σ : St) (Q : List V → Hp → Prop) (us : List Value) (s' : Shared) : Prop := ∃ vs H', Inv X pins σ H' s' ∧ Vals vs us ∧ Q vs H'
noncomputable def SP (X : Cx) (pins : List (Addr × Obj)) (D : Ends) (f : Flow) (s' : Shared) : Prop :=
  match f with
  | .next => ∃ σ' H', Inv X pins σ' H' s' ∧ D.nx σ' H'
  | .brk => ∃ σ' H', Inv X pins σ' H' s' ∧ D.bk σ' H'
  | .cont => ∃ σ' H', Inv X pins σ' H' s' ∧ D.ct σ' H'
  | .ret u => ∃ v σ' H', Inv X pins σ' H' s' ∧ RelV v u ∧ D.rt v H'
noncomputable def PE (X : Cx) (e : Expr) (t : TE) : Prop :=
  ∀ (pins : List (Addr × Obj)) (s : Shared) (σ : St) (H : Hp) (Q : VK), Inv X pins σ H s → t σ H Q → wpAny (model X.prog X.w) X.A (eval e X.env) (EP X pins σ Q) X.xe s
noncomputable def PT (X : Cx) (e : Expr) (t : TT) : Prop :=
  ∀ (pins : List (Addr × Obj)) (s : Shared) (σ : St) (H : Hp) (Q : Bool → Hp → Prop), Inv X pins σ H s → t σ H Q → wpAny (model X.prog X.w) X.A (isTrue e X.env (eval e X.env)) (TP X pins σ Q) X.xe s
noncomputable def PW (X : Cx) (e : Expr) (t : TT) : Prop :=
  ∀ (whole : Sem Value) (pins : List (Addr × Obj)) (s : Shared) (σ : St) (H : Hp) (Q : Bool → Hp → Prop), Inv X pins σ H s → t σ H Q → wpAny (model X.prog X.w) X.A (isTrue e X.env whole) (TP X pins σ Q) X.xe s
theorem PW.pt {X : Cx} {e : Expr} {t : TT} (h : PW X e t) : PT X e t := h _
noncomputable def PA (X : Cx) (es : List Expr) (t : TA) : Prop :=
  ∀ (pos : Pos) (pins : List (Addr × Obj)) (s : Shared) (σ : St) (H : Hp) (Q : List V → Hp → Prop), Inv X pins σ H s → t σ H Q → wpAny (model X.prog X.w) X.A (spliced (backTo pos (starEach es X.env))) (AP X pins σ Q) X.xe s
noncomputable def PS (X : Cx) (st : Stmt) (t : TS) : Prop :=
  ∀ (pins : List (Addr × Obj)) (s : Shared) (σ : St) (H : Hp) (D : Ends), Inv X pins σ H s → t D σ H → wpAny (model X.prog X.w) X.A (exec st X.env) (SP X pins D) X.xe s
noncomputable def PSs (X : Cx) (st : List Stmt) (t : TS) : Prop :=
  ∀ (pins : List (Addr × Obj)) (s : Shared) (σ : St) (H : Hp) (D : Ends), Inv X pins σ H s → t D σ H → wpAny (model X.prog X.w) X.A (execs st X.env) (SP X pins D) X.xe s
theorem thn {α : Type} {t : Sem α} {Q Q' : α → Shared → Prop} {M : Model} {A : Around} {E : Value → Shared → Prop} {s : Shared} (h : wpAny M A t Q E s) (hQ : ∀ a s, Q a s → Q' a s) : wpAny M A t Q' E s := wpAny_mono h hQ fun _ _ x => x
end L2
namespace L2
open PySem PySem.Spec PyProof.Rows
section
variable {X : Cx}
theorem bin {a b : Expr} {ta tb : TE} (ha : PE X a ta) (hb : PE X b tb) {pins : List (Addr × Obj)} {s : Shared} {σ : St} {H : Hp} {R : V → V → Hp → Prop} (I : Inv X pins σ H s) (h : ta σ H fun x H1 => tb σ H1 fun y H2 => R x y H2)
    {α : Type} {Q : α → Shared → Prop} {f : Value → Value → Sem α}
    (hf : ∀ v u s2 x y H2, Inv X pins σ H2 s2 → RelV x v → RelV y u → R x y H2 → wpAny (model X.prog X.w) X.A (f v u) Q X.xe s2) :
    wpAny (model X.prog X.w) X.A (eval a X.env) (fun v s₁ => wpAny (model X.prog X.w) X.A (eval b X.env) (fun u s₂ => wpAny (model X.prog X.w) X.A (f v u) Q X.xe s₂) X.xe s₁) X.xe s := by
  refine thn (ha pins s σ H _ I h) fun v s1 ⟨x, H1, I1, r1, q1⟩ => ?_
  refine thn (hb pins s1 σ H1 _ I1 q1) fun u s2 ⟨y, H2, I2, r2, q2⟩ => ?_
  exact hf v u s2 x y H2 I2 r1 r2 q2
noncomputable def tVar (i : Nat) : TE := fun σ H Q => ∃ v, σ[i]? = some (some v) ∧ Q v H
noncomputable def tC (v : V) : TE := fun _ H Q => Q v H
theorem pe_var {i : Nat} {x : Str} {pos : Pos} (hN : X.N[i]? = some x) (hv : Vis X.env.scope x) (hd : (x == ("__debug__" : Str)) = false := by decide) (hcd : (x == ("__classdict__" : Str)) = false := by decide) : PE X (.Name x pos) (tVar i) := by
  intro pins s σ H Q I h
  obtain ⟨v, e, h⟩ := h
  obtain ⟨m, hn, hl⟩ := I.loc
  obtain ⟨u, r, l⟩ := hl i x v hN e hv
  have fin : EP X pins σ Q u s := ⟨v, H, I, r, h⟩
  rcases l with ⟨hk, hm⟩ | ⟨hk, c, hc, hcell⟩
  · exact wpAny_Name (wpAny_loadName_local I.ok.kind hk hn hm fin) hd
  · rcases hk with hk | hk
    · exact wpAny_Name (wpAny_loadName_cell I.ok.kind hk hc hcell fin) hd
    · exact wpAny_Name (wpAny_loadName_free I.ok.kind hk hc hcell fin hcd) hd
theorem pe_int {i j pos} : PE X (.Constant (.int i) j pos) (tC (.int i)) := fun _ _ _ H _ I h => wpAny_Constant_int ⟨.int i, H, I.tok _, ⟨_, rfl⟩, h⟩
theorem pe_bl {b j pos} : PE X (.Constant (.bool b) j pos) (tC (.bl b)) := fun _ _ _ H _ I h => Constant_bool ⟨.bl b, H, I, rfl, h⟩
theorem pe_str {x j pos} : PE X (.Constant (.str x) j pos) (tC (.str x)) := fun _ _ _ H _ I h => Calls.Constant_str ⟨.str x, H, I.tok _, ⟨_, rfl⟩, h⟩
noncomputable def Gl (X : Cx) (x : Str) : Prop := X.env.kindOf x = some .globalImplicit
theorem ld_glob {E : Value → Shared → Prop} {pins : List (Addr × Obj)} {s : Shared} {σ : St} {H : Hp} {x : Str} {u : Value} {pos : Pos} {Q : Value → Shared → Prop} (I : Inv X pins σ H s) (hg : Gl X x) (hm : X.mg x = some u) (h : Q u s)
    (hd : (x == ("__debug__" : Str)) = false := by decide) : wpAny (model X.prog X.w) X.A (eval (.Name x pos) X.env) Q E s :=
  Calls.Name_function_global I.ok.kind hg (Calls.loadGlobal_global (by rw [I.ok.glob]; exact I.mod.glob.keeps I.bk) hm h) hd
theorem ld_blt {E : Value → Shared → Prop} {pins : List (Addr × Obj)} {s : Shared} {σ : St} {H : Hp} {x : Str} {u : Value} {pos : Pos} {Q : Value → Shared → Prop} (I : Inv X pins σ H s) (hg : Gl X x) (hm : X.mg x = none) (hv : bootBuiltins x = some u) (h : Q u s)
    (hn : x ≠ "__name__" := by decide) (hd : (x == ("__debug__" : Str)) = false := by decide) : wpAny (model X.prog X.w) X.A (eval (.Name x pos) X.env) Q E s := by
  obtain ⟨mb, h1, h2⟩ := I.mod.blt
  exact Calls.Name_function_global I.ok.kind hg (Calls.loadGlobal_builtin (by rw [I.ok.glob]; exact I.mod.glob.keeps I.bk) hm (by rw [I.ok.blt]; exact h1.keeps I.bk) ((h2 x hn).trans hv) h) hd
theorem pe_bltn {x : Str} {v : V} {u : Value} {pos : Pos} (hg : Gl X x) (hm : X.mg x = none) (hv : bootBuiltins x = some u) (r : RelV v u) (hn : x ≠ "__name__" := by decide) (hd : (x == ("__debug__" : Str)) = false := by decide) : PE X (.Name x pos) (tC v) :=
  fun _ _ _ H _ I h => ld_blt I hg hm hv ⟨v, H, I, r, h⟩ hn hd
variable {a b : Expr} {ta tb : TE} {pos : Pos}
noncomputable def PC (X : Cx) (op : CmpOp) (a b : Expr) (t : TE) : Prop :=
  ∀ (pins : List (Addr × Obj)) (s : Shared) (σ : St) (H : Hp) (Q : VK), Inv X pins σ H s → t σ H Q →
    wpAny (model X.prog X.w) X.A (eval a X.env) (fun v s₁ => wpAny (model X.prog X.w) X.A (eval b X.env) (fun u s₂ => wpAny (model X.prog X.w) X.A (compareOp op v u) (EP X pins σ Q) X.xe s₂) X.xe s₁) X.xe s
theorem nobehind (b : Expr) {op : CmpOp} (h : op ≠ .In) (h2 : op ≠ .NotIn) : behindInMarks op b = false := by
  have e1 : (op == CmpOp.In) = false := by cases op <;> first | rfl | exact absurd rfl h
  have e2 : (op == CmpOp.NotIn) = false := by cases op <;> first | rfl | exact absurd rfl h2
  cases b <;> simp [behindInMarks, e1, e2]
noncomputable def tB (t : TE) : TT := fun σ H Q => t σ H fun x H1 => ∃ c, x = .bl c ∧ Q c H1
theorem pt_cmp {op : CmpOp} {t : TE} (h : PC X op a b t) (h1 : behindInMarks op b = false := by first | exact nobehind _ (by decide) (by decide) | rfl) : PT X (.Compare a [op] [b] pos) (tB t) := by
  intro pins s σ H Q I hw
  refine wpAny_isTrue_Compare1 (thn (h pins s σ H _ I hw) fun v s1 h1 => thn h1 fun u s2 h2 => thn h2 fun c s3 ⟨x, H1, I1, r1, q1⟩ => ?_) h1
  obtain ⟨d, rfl, q⟩ := q1
  cases r1
  exact wpAny_truthy_bool ⟨H1, I1, q⟩
theorem pt_val {e : Expr} {t : TE} (h : PE X e t) (he : ∀ whole, isTrue e X.env whole = (do let v ← whole; standAt e.pos; holding [v] (truthy v)) := by intro _; rfl) : PT X e (tB t) := by
  intro pins s σ H Q I hw
  refine isTrue_plain (thn (h pins s σ H _ I hw) fun v s1 ⟨x, H1, I1, r1, q1⟩ => ?_) (he _)
  obtain ⟨d, rfl, q⟩ := q1
  cases r1
  exact wpAny_truthy_bool ⟨H1, I1, q⟩
variable {tA tB' : TT} {rest : List Expr}
noncomputable def tAnd (t u : TT) : TT := fun σ H Q => t σ H fun c H1 => if c = true then u σ H1 Q else Q false H1
noncomputable def tOr (t u : TT) : TT := fun σ H Q => t σ H fun c H1 => if c = true then Q true H1 else u σ H1 Q
noncomputable def tNot (t : TT) : TT := fun σ H Q => t σ H fun c H1 => Q (!c) H1
theorem pw_and1 (ha : PT X a tA) : PW X (.BoolOp .And [a] pos) tA := by
  intro wh pins s σ H Q I h
  refine isTrue_and (thn (ha pins s σ H Q I h) fun c s1 e => ?_)
  cases c with
  | true => exact isTrue_and_nil e
  | false => exact e
theorem pw_or1 (ha : PT X a tA) : PW X (.BoolOp .Or [a] pos) tA := by
  intro wh pins s σ H Q I h
  refine isTrue_or (thn (ha pins s σ H Q I h) fun c s1 e => ?_)
  cases c with
  | false => exact isTrue_or_nil e
  | true => exact e
theorem pw_and (ha : PT X a tA) (hb : PW X (.BoolOp .And (b :: rest) pos) tB') : PW X (.BoolOp .And (a :: b :: rest) pos) (tAnd tA tB') := by
  intro wh pins s σ H Q I h
  refine isTrue_and (thn (ha pins s σ H _ I h) fun c s1 ⟨H1, I1, q1⟩ => ?_)
  cases c with
  | true => exact hb wh pins s1 σ H1 Q I1 q1
  | false => exact ⟨H1, I1, q1⟩
theorem pw_or (ha : PT X a tA) (hb : PW X (.BoolOp .Or (b :: rest) pos) tB') : PW X (.BoolOp .Or (a :: b :: rest) pos) (tOr tA tB') := by
  intro wh pins s σ H Q I h
  refine isTrue_or (thn (ha pins s σ H _ I h) fun c s1 ⟨H1, I1, q1⟩ => ?_)
  cases c with
  | true => exact ⟨H1, I1, q1⟩
  | false => exact hb wh pins s1 σ H1 Q I1 q1
theorem pt_not (ha : PT X a tA) : PT X (.UnaryOp .Not a pos) (tNot tA) := by
  intro pins s σ H Q I h
  exact isTrue_not (ha pins s σ H (fun c H1 => Q (!c) H1) I h)
noncomputable def tAndV (ta tb : TE) : TE := fun σ H Q => ta σ H fun x H1 => ∃ c, x = .bl c ∧ if c = true then tb σ H1 Q else Q (.bl false) H1
noncomputable def tNotV (ta : TE) : TE := fun σ H Q => ta σ H fun x H1 => ∃ c, x = .bl c ∧ Q (.bl (!c)) H1
theorem pe_one {op} {t : TE} (h : PE X a t) : PE X (.BoolOp op [a] pos) t := fun pins s σ H Q I hw => BoolOp_one (h pins s σ H Q I hw)
theorem pe_and (ha : PE X a ta) (hb : PE X (.BoolOp .And (b :: rest) pos) tb) : PE X (.BoolOp .And (a :: b :: rest) pos) (tAndV ta tb) := by
  intro pins s σ H Q I h
  refine BoolOp_and (thn (ha pins s σ H _ I h) fun v s1 ⟨x, H1, I1, r1, q1⟩ => ?_)
  obtain ⟨c, rfl, q1⟩ := q1
  cases r1
  refine wpAny_truthy_bool ?_
  cases c with
  | true => exact hb pins s1 σ H1 Q I1 q1
  | false => exact ⟨.bl false, H1, I1, rfl, q1⟩
theorem pe_not (ha : PE X a ta) : PE X (.UnaryOp .Not a pos) (tNotV ta) := by
  intro pins s σ H Q I h
  refine UnaryOp_ (thn (ha pins s σ H _ I h) fun v s1 ⟨x, H1, I1, r1, q1⟩ => ?_)
  obtain ⟨c, rfl, q1⟩ := q1
  cases r1
  exact not_of (wpAny_truthy_bool ⟨.bl (!c), H1, I1, rfl, q1⟩)
end
end L2
namespace L2
open PySem PySem.Spec PyProof.Rows
noncomputable def SqL (K : PySem.W.Frag) (H : Hp) (a : Addr) (xs : List V) : Prop :=
  Rd H a (.lst xs) ∨
    ∃ (o : Obj) (its : Array Value) (n : Nat), K.lookup a = some o ∧ o.cls = .type "list" ∧ o.dict = none ∧ o.data = .seq its n ∧ its.size ≤ sizeLine ∧ Vals xs its.toList
noncomputable def SqT (K : PySem.W.Frag) (H : Hp) (a : Addr) (xs : List V) : Prop :=
  Rd H a (.tup xs) ∨
    ∃ (o : Obj) (its : Array Value) (n : Nat), K.lookup a = some o ∧ o.cls = .type "tuple" ∧ o.data = .seq its n ∧ its.size ≤ sizeLine ∧ Vals xs its.toList
noncomputable def absV : Value → Option V
  | .none => some .non
  | .bool b => some (.bl b)
  | .int i _ => some (.int i)
  | .str x _ => some (.str x)
  | .bytes b _ => some (.byt b)
  | .float b _ => some (.flt b)
  | .ref a => some (.ref a)
  | .type n => some (.ty n)
  | _ => none
theorem RelV.abs {x : V} {u : Value} (r : RelV x u) : absV u = some x := by
  cases x with
  | non => cases r; rfl
  | bl _ => cases r; rfl
  | int _ => obtain ⟨t, rfl⟩ := r; rfl
  | str _ => obtain ⟨t, rfl⟩ := r; rfl
  | byt _ => obtain ⟨t, rfl⟩ := r; rfl
  | flt _ => obtain ⟨t, rfl⟩ := r; rfl
  | ref _ => cases r; rfl
  | ty _ => cases r; rfl
theorem RelV.inj {x y : V} {u : Value} (r : RelV x u) (q : RelV y u) : x = y := Option.some.inj (r.abs.symm.trans q.abs)
theorem Vals.inj : ∀ {xs ys : List V} {us : List Value}, Vals xs us → Vals ys us → xs = ys
  | _, _, _, .nil, .nil => rfl
  | _, _, _, .cons r t, .cons r' t' => by rw [r.inj r', Vals.inj t t']
section
variable {X : Cx} {pins : List (Addr × Obj)} {σ : St} {H : Hp} {s : Shared} {a : Addr} {xs ys : List V}
theorem SqL.of {K : PySem.W.Frag} (h : H a = some (.lst xs)) : SqL K H a xs := .inl (.inl h)
theorem SqT.of {K : PySem.W.Frag} (h : H a = some (.tup xs)) : SqT K H a xs := .inl (.inl h)
theorem Inv.list (I : Inv X pins σ H s) (h : SqL X.K H a xs) : ∃ its : List Value, Vals xs its ∧ PlainL s.heap a its.toArray ∧ xs.length ≤ sizeLine := by
  rcases h with h | ⟨o, its, n, hk, hc, hd, hs, hz, r⟩
  · obtain ⟨z, its, n, r, e⟩ := h.ok I.hok
    exact ⟨its, r, ⟨_, n, e, rfl, rfl, rfl⟩, z⟩
  · refine ⟨its.toList, r, ⟨o, n, I.kIn a o hk, hc, hd, by simpa using hs⟩, ?_⟩
    have e := r.length
    simp only [Array.length_toList] at e
    omega
theorem Inv.tuple (I : Inv X pins σ H s) (h : SqT X.K H a xs) : ∃ its : List Value, Vals xs its ∧ IsTup s.heap a its.toArray ∧ xs.length ≤ sizeLine := by
  rcases h with h | ⟨o, its, n, hk, hc, hs, hz, r⟩
  · obtain ⟨z, its, r, p⟩ := h.ok I.hok
    exact ⟨its, r, p, z⟩
  · refine ⟨its.toList, r, ⟨o, I.kIn a o hk, hc, n, by simpa using hs⟩, ?_⟩
    have e := r.length
    simp only [Array.length_toList] at e
    omega
theorem Inv.list_inj (I : Inv X pins σ H s) (h : SqL X.K H a xs) (h' : SqL X.K H a ys) : xs = ys := by
  obtain ⟨its, r, ⟨o, n, e, _, _, d⟩, _⟩ := I.list h
  obtain ⟨its', r', ⟨o', n', e', _, _, d'⟩, _⟩ := I.list h'
  rw [e] at e'; cases e'
  rw [d] at d'
  injection d' with d1 _
  have : its = its' := by simpa using congrArg Array.toList d1
  subst this
  exact r.inj r'
end
noncomputable abbrev Cx.wish (X : Cx) (E : Value → Shared → Prop) : Cx := { X with xe := E }
noncomputable abbrev Cx.nox (X : Cx) : Cx := X.wish fun _ _ => False
theorem Cx.Ok.wish {X : Cx} (ok : X.Ok) (E : Value → Shared → Prop) : (X.wish E).Ok :=
  ⟨ok.mod, ok.kind, ok.glob, ok.blt, ok.above, ok.inj, ok.has, ok.cab, ok.hd, ok.frames, ok.stk, ok.exf, ok.bs, ok.bsz, ok.noex, ok.exfs, ok.funs, ok.frf⟩
theorem Cx.Ok.unwish {X : Cx} {E : Value → Shared → Prop} (ok : (X.wish E).Ok) : X.Ok :=
  ⟨ok.mod, ok.kind, ok.glob, ok.blt, ok.above, ok.inj, ok.has, ok.cab, ok.hd, ok.frames, ok.stk, ok.exf, ok.bs, ok.bsz, ok.noex, ok.exfs, ok.funs, ok.frf⟩
section
variable {X : Cx} {pins : List (Addr × Obj)} {σ : St} {H : Hp} {s : Shared} {E : Value → Shared → Prop}
theorem Inv.wish (I : Inv X pins σ H s) (E : Value → Shared → Prop) : Inv (X.wish E) pins σ H s := ⟨I.ok.wish E, I.os, I.bare, I.base, I.loc, I.cell, I.free, I.freeC, I.pin, I.hok, I.len⟩
theorem Inv.unwish (I : Inv (X.wish E) pins σ H s) : Inv X pins σ H s := ⟨I.ok.unwish, I.os, I.bare, I.base, I.loc, I.cell, I.free, I.freeC, I.pin, I.hok, I.len⟩
theorem SP.unwish {D : Ends} {f : Flow} {s' : Shared} (h : SP (X.wish E) pins D f s') : SP X pins D f s' := by
  cases f with
  | next => obtain ⟨σ', H', I, q⟩ := h; exact ⟨σ', H', I.unwish, q⟩
  | brk => obtain ⟨σ', H', I, q⟩ := h; exact ⟨σ', H', I.unwish, q⟩
  | cont => obtain ⟨σ', H', I, q⟩ := h; exact ⟨σ', H', I.unwish, q⟩
  | ret u => obtain ⟨v, σ', H', I, r, q⟩ := h; exact ⟨v, σ', H', I.unwish, r, q⟩
theorem PSs.nox {st : List Stmt} {t : TS} (h : PSs X.nox st t) : PSs X st t := fun pins s σ H D I hw =>
  wpAny_mono (h pins s σ H D (I.wish _) hw) (fun _ _ q => q.unwish) fun _ _ z => False.elim z
end
section
variable {X : Cx} {st : Stmt} {rest : List Stmt} {t u : TS} {e : Expr} {te : TE} {pos : Pos}
noncomputable def tNext : TS := fun D σ H => D.nx σ H
noncomputable def tSeq (t u : TS) : TS := fun D σ H => t { D with nx := u D } σ H
theorem pss_nil : PSs X [] tNext := fun _ _ σ H _ I h => wpAny_execs_nil ⟨σ, H, I, h⟩
theorem pss_cons (h1 : PS X st t) (h2 : PSs X rest u) : PSs X (st :: rest) (tSeq t u) := by
  intro pins s σ H D I h
  refine wpAny_execs_cons (thn (h1 pins s σ H { D with nx := u D } I h) fun f s1 q => ?_)
  cases f with
  | next =>
    obtain ⟨σ', H', I', q⟩ := q
    exact h2 pins s1 σ' H' D I' q
  | ret v => exact q
  | brk => exact q
  | cont => exact q
theorem pss_one (h1 : PS X st t) : PSs X [st] t := by
  intro pins s σ H D I h
  refine wpAny_execs_cons (thn (h1 pins s σ H D I h) fun f s1 q => ?_)
  cases f with
  | next => exact wpAny_execs_nil q
  | ret v => exact q
  | brk => exact q
  | cont => exact q
theorem Inv.quiet {pins : List (Addr × Obj)} {σ : St} {H : Hp} {s : Shared} (I : Inv X pins σ H s) : interactive X.env = false := by simp [interactive, I.ok.kind]
noncomputable def tDrop (te : TE) : TS := fun D σ H => te σ H fun _ H1 => D.nx σ H1
theorem ps_expr (he : PE X e te) (hs : swapsWith e none pos.line X.env = pure false := by rfl) : PS X (.Expr e pos) (tDrop te) := by
  intro pins s σ H D I h
  exact wpAny_Expr_any (thn (he pins s σ H _ I h) fun v s1 ⟨x, H1, I1, r1, q1⟩ => ⟨σ, H1, I1, q1⟩) I.quiet hs
noncomputable def tRet (te : TE) : TS := fun D σ H => te σ H D.rt
theorem ps_ret (he : PE X e te) : PS X (.Return (some e) pos) (tRet te) := by
  intro pins s σ H D I h
  exact wpAny_Return_some (thn (he pins s σ H _ I h) fun v s1 ⟨x, H1, I1, r1, q1⟩ => ⟨x, σ, H1, I1, r1, q1⟩)
noncomputable def tIfS (c : TT) (t u : TS) : TS := fun D σ H => c σ H fun b H1 => if b = true then t D σ H1 else u D σ H1
theorem ps_if {c : Expr} {a b : List Stmt} {tc : TT} (hc : PT X c tc) (ha : PSs X a t) (hb : PSs X b u) : PS X (.If c a b pos) (tIfS tc t u) := by
  intro pins s σ H D I h
  refine wpAny_If (thn (hc pins s σ H _ I h) fun d s1 ⟨H1, I1, q1⟩ => ?_)
  cases d with
  | true => exact ha pins s1 σ H1 D I1 q1
  | false => exact hb pins s1 σ H1 D I1 q1
noncomputable def tNever : TS := fun _ _ _ => False
theorem ps_never : PS X st tNever := fun _ _ _ _ _ _ h => h.elim
end
noncomputable abbrev TG := V → St → Hp → (St → Hp → Prop) → Prop
noncomputable abbrev TGs := List V → St → Hp → (St → Hp → Prop) → Prop
noncomputable def PG (X : Cx) (target : Expr) (t : TG) : Prop :=
  ∀ (pins : List (Addr × Obj)) (s : Shared) (σ : St) (H : Hp) (v : V) (u : Value) (Q : St → Hp → Prop), Inv X pins σ H s → RelV v u → t v σ H Q →
    wpAny (model X.prog X.w) X.A (assign target X.env u) (fun _ s' => ∃ σ' H', Inv X pins σ' H' s' ∧ Q σ' H') X.xe s
noncomputable def PGs (X : Cx) (ts : List Expr) (t : TGs) : Prop :=
  ∀ (pins : List (Addr × Obj)) (s : Shared) (σ : St) (H : Hp) (vs : List V) (us : List Value) (Q : St → Hp → Prop), Inv X pins σ H s → Vals vs us → t vs σ H Q →
    wpAny (model X.prog X.w) X.A (assignInOrder ((assignEach ts X.env).map (·.2)) us) (fun _ s' => ∃ σ' H', Inv X pins σ' H' s' ∧ Q σ' H') X.xe s
noncomputable abbrev TSet := V → V → V → Hp → (Hp → Prop) → Prop
noncomputable def PSet (X : Cx) (t : TSet) : Prop :=
  ∀ (pins : List (Addr × Obj)) (s : Shared) (σ : St) (H : Hp) (o i v : V) (ov iv u : Value) (Q : Hp → Prop), Inv X pins σ H s → RelV o ov → RelV i iv → RelV v u → t o i v H Q →
    wpAny (model X.prog X.w) X.A (setItem ov iv u) (fun _ s' => ∃ H', Inv X pins σ H' s' ∧ Q H') X.xe s
noncomputable abbrev TIp := V → V → Hp → VK → Prop
noncomputable def PIp (X : Cx) (op : Operator) (t : TIp) : Prop :=
  ∀ (pins : List (Addr × Obj)) (s : Shared) (σ : St) (H : Hp) (x y : V) (v u : Value) (Q : VK), Inv X pins σ H s → RelV x v → RelV y u → t x y H Q →
    wpAny (model X.prog X.w) X.A (inplaceOp op v u) (EP X pins σ Q) X.xe s
section
variable {X : Cx} {pos : Pos}
noncomputable def gName (i : Nat) : TG := fun v σ H Q => Q (σ.set i (some v)) H
theorem pg_name {i : Nat} {x : Str} (hN : X.N.Nodup) (hi : X.N[i]? = some x) (hx : Loc X.env.scope x) (hf : X.fn x = true ∨ X.env.scope.names.lookup x = some .local := by first | exact .inl rfl | exact .inr rfl | assumption) : PG X (.Name x pos) (gName i) := by
  intro pins s σ H v u Q I r h
  exact wpAny_assign_Name (store_ok I hN hi hx r (fun s' I' => ⟨_, H, I', h⟩) hf)
noncomputable def gNil : TGs := fun vs σ H Q => vs = [] ∧ Q σ H
noncomputable def gCons (t : TG) (u : TGs) : TGs := fun vs σ H Q => ∃ v r, vs = v :: r ∧ t v σ H fun σ' H' => u r σ' H' Q
theorem pgs_nil : PGs X [] gNil := by
  intro pins s σ H vs us Q I r h
  obtain ⟨e, h⟩ := h
  subst e
  cases r
  exact assignInOrder_nil ⟨σ, H, I, h⟩
theorem pgs_cons {e : Expr} {es : List Expr} {t : TG} {u : TGs} (h1 : PG X e t) (h2 : PGs X es u)
    (hs : (assignEach (e :: es) X.env).map (·.2) = assign e X.env :: (assignEach es X.env).map (·.2) := by rfl) : PGs X (e :: es) (gCons t u) := by
  intro pins s σ H vs us Q I r h
  obtain ⟨v, vr, e1, h⟩ := h
  subst e1
  cases r with
  | cons r rr =>
    rw [hs]
    refine assignInOrder_cons (thn (h1 pins s σ H _ _ _ I r h) fun _ s1 ⟨σ1, H1, I1, q1⟩ => ?_)
    exact h2 pins s1 σ1 H1 _ _ Q I1 rr q1
noncomputable def gTup (K : PySem.W.Frag) (n : Nat) (t : TGs) : TG := fun v σ H Q => ∃ a xs, v = .ref a ∧ SqT K H a xs ∧ xs.length = n ∧ t xs σ H Q
theorem pg_tup {es : List Expr} {k : Nat} {t : TGs} {n : Nat} (hc : X.calm = true) (h : PGs X es t)
    (hn : (assignEach es X.env).length = n := by rfl) (hst : (assignEach es X.env).findIdx? (·.1) = none := by rfl) : PG X (.Tuple es k pos) (gTup X.K n t) := by
  intro pins s σ H v u Q I r hw
  obtain ⟨a, xs, e1, hq, hl, hw⟩ := hw
  subst e1
  cases r
  obtain ⟨its, rv, ht, hz⟩ := I.tuple hq
  refine assign_Tuple_tuple (I.ok.hd hc) ht (by simp [hn, ← hl, rv.length]) hst fun h' hx => ?_
  have I1 : Inv X pins σ H { s with heap := h' } := I.kept (t' := s.toks) fun b o e => hx b o (Nat.ne_of_lt (Heap.lt_size e)) e
  exact h pins _ σ H xs _ Q I1 (by simpa using rv) hw
noncomputable def gSub (to ti : TE) (t : TSet) : TG := fun v σ H Q => to σ H fun o H1 => ti σ H1 fun i H2 => t o i v H2 fun H3 => Q σ H3
theorem pg_sub {o i : Expr} {to ti : TE} {t : TSet} (ho : PE X o to) (hi : PE X i ti) (hs : PSet X t)
    (ha : ∀ v, assign (.Subscript o i pos) X.env v = (do
      let ov ← holding [v] (eval o X.env)
      let iv ← holding [v, ov] (eval i X.env)
      standAt pos
      holding [v, ov, iv] (setItem ov iv v)
      release [v, ov, iv] []) := by intro _; rfl) : PG X (.Subscript o i pos) (gSub to ti t) := by
  intro pins s σ H v u Q I r h
  rw [ha]
  refine wpAny_bind (wpAny_holding (thn (ho pins s σ H _ I h) fun ov s1 ⟨x, H1, I1, r1, q1⟩ => ?_))
  refine wpAny_bind (wpAny_holding (thn (hi pins s1 σ H1 _ I1 q1) fun iv s2 ⟨y, H2, I2, r2, q2⟩ => ?_))
  refine wpAny_bind (wpAny_standAt (wpAny_bind (wpAny_holding (thn (hs pins s2 σ H2 x y v ov iv u _ I2 r1 r2 r q2) fun _ s3 ⟨H3, I3, q3⟩ => ?_))))
  exact wpAny_release ⟨σ, H3, I3, q3⟩
noncomputable def tAsg (te : TE) (g : TG) : TS := fun D σ H => te σ H fun x H1 => g x σ H1 D.nx
theorem ps_asg {tg e : Expr} {te : TE} {g : TG} (he : PE X e te) (hg : PG X tg g) (hs : swapsWithSole [tg] e pos.line X.env = pure false := by rfl) (hw : swappedStores [tg] e X.env = pure none := by rfl)
    (h1 : (assignEach [tg] X.env).map (·.2) = [assign tg X.env] := by rfl) : PS X (.Assign [tg] e pos) (tAsg te g) := by
  intro pins s σ H D I h
  refine wpAny_Assign_stores (thn (he pins s σ H _ I h) fun v s1 ⟨x, H1, I1, r1, q1⟩ => ?_) hs hw
  rw [h1]
  exact thn (hg pins s1 σ H1 x v _ I1 r1 q1) fun _ s2 q => q
theorem ps_set {i : Nat} {x : Str} {e : Expr} {te : TE} {pos' : Pos} (hN : X.N.Nodup) (hi : X.N[i]? = some x) (hx : Loc X.env.scope x) (he : PE X e te) (hs : swapsWith e (some (.Name x pos')) pos.line X.env = pure false := by rfl) (hf : X.fn x = true ∨ X.env.scope.names.lookup x = some .local := by first | exact .inl rfl | exact .inr rfl | assumption) :
    PS X (.Assign [.Name x pos'] e pos) (tAsg te (gName i)) := by
  intro pins s σ H D I h
  refine wpAny_Assign_Name (thn (he pins s σ H _ I h) fun v s1 ⟨y, H1, I1, r1, q1⟩ => ?_) hs
  exact store_ok I1 hN hi hx r1 (fun s2 I2 => ⟨_, H1, I2, q1⟩) hf
noncomputable def tAug (i : Nat) (te : TE) (ti : TIp) : TS := fun D σ H => ∃ x, σ[i]? = some (some x) ∧ te σ H fun y H1 => ti x y H1 fun z H2 => D.nx (σ.set i (some z)) H2
theorem ps_aug {i : Nat} {x : Str} {e : Expr} {te : TE} {op : Operator} {ti : TIp} {pos' : Pos} (hN : X.N.Nodup) (hi : X.N[i]? = some x) (hx : Loc X.env.scope x) (he : PE X e te) (ho : PIp X op ti) (hf : X.fn x = true ∨ X.env.scope.names.lookup x = some .local := by first | exact .inl rfl | exact .inr rfl | assumption) :
    PS X (.AugAssign (.Name x pos') op e pos) (tAug i te ti) := by
  intro pins s σ H D I h
  obtain ⟨v, e1, h⟩ := h
  obtain ⟨m, hn, hl⟩ := I.loc
  have vis : Vis X.env.scope x := by rcases hx with k | k; exact .inl k; exact .inr (.inl k)
  obtain ⟨u, r, l⟩ := hl i x v hi e1 vis
  refine wpAny_AugAssign_Name ?_
  have go : wpAny (model X.prog X.w) X.A (eval e X.env) (fun w s₂ => wpAny (model X.prog X.w) X.A (inplaceOp op u w) (fun r s₃ => wpAny (model X.prog X.w) X.A (storeName X.env x r) (fun _ => SP X pins D .next) X.xe s₃) X.xe s₂) X.xe s := by
    refine thn (he pins s σ H _ I h) fun w s1 ⟨y, H1, I1, r1, q1⟩ => ?_
    refine thn (ho pins s1 σ H1 v y u w _ I1 r r1 q1) fun z s2 ⟨zv, H2, I2, r2, q2⟩ => ?_
    exact store_ok I2 hN hi hx r2 (fun s3 I3 => ⟨_, H2, I3, q2⟩) hf
  rcases l with ⟨hk, hm⟩ | ⟨hk, c, hc, hcell⟩
  · exact wpAny_loadName_local I.ok.kind hk hn hm go
  · rcases hk with hk | hk
    · exact wpAny_loadName_cell I.ok.kind hk hc hcell go
    · rcases hx with k | k
      · have : X.env.scope.names.lookup x = some .free := hk
        rw [k] at this; cases this
      · have : X.env.scope.names.lookup x = some .free := hk
        rw [k] at this; cases this
noncomputable def ipI (f : Int → Int → Int) : TIp := fun x y H Q => ∃ i j, x = .int i ∧ y = .int j ∧ Q (.int (f i j)) H
theorem ip_add : PIp X .Add (ipI fun i j => i + j) := by
  intro pins s σ H x y v u Q I r1 r2 h
  obtain ⟨i, j, e1, e2, q⟩ := h
  subst e1; subst e2
  obtain ⟨t, rfl⟩ := r1
  obtain ⟨t', rfl⟩ := r2
  exact iadd_int ⟨.int _, H, I.tok _, ⟨_, rfl⟩, q⟩
theorem ip_sub : PIp X .Sub (ipI fun i j => i - j) := by
  intro pins s σ H x y v u Q I r1 r2 h
  obtain ⟨i, j, e1, e2, q⟩ := h
  subst e1; subst e2
  obtain ⟨t, rfl⟩ := r1
  obtain ⟨t', rfl⟩ := r2
  exact isub_int ⟨.int _, H, I.tok _, ⟨_, rfl⟩, q⟩
end
section
variable {X : Cx} {pos : Pos}
end
structure It where
  go : Nat → Hp → Prop
  yld : Nat → Hp → V → Hp → Prop
  stop : Nat → Hp → Prop
noncomputable def FpOk (X : Cx) (pins : List (Addr × Obj)) (H : Hp) (b : Addr) : Prop :=
  H b = none ∧ b ≠ X.env.locals ∧ b ∉ X.fs ∧ (b ∈ X.ex ∨ X.s₀.heap.objs.size ≤ b) ∧ (∀ x c, X.env.cells.lookup x = some c → c ≠ b) ∧ ∀ p ∈ X.pn ++ pins, p.1 ≠ b
theorem Inv.fpOk {X : Cx} {pins : List (Addr × Obj)} {σ : St} {H H' : Hp} {s : Shared} {b : Addr} (I : Inv X pins σ H s) (hb : s.heap.objs.size ≤ b) (hn : H' b = none) : FpOk X pins H' b := by
  refine ⟨hn, Nat.ne_of_gt (Nat.lt_of_lt_of_le I.lt hb), I.nofs hb, .inr (Nat.le_trans I.sz hb), fun x c e z => ?_, fun p hp z => ?_⟩
  · obtain ⟨v, q⟩ := I.cell x c e
    exact absurd (Nat.lt_of_lt_of_le q.lt (by rw [z]; exact hb)) (Nat.lt_irrefl _)
  · exact absurd (Nat.lt_of_lt_of_le (Heap.lt_size (I.pin p hp).1) (by rw [z]; exact hb)) (Nat.lt_irrefl _)
structure Turn (P : Program) (w : World) (K : PySem.W.Frag) (tg : Expr) (J : It) (fp : List Addr) (it : Addr) (tn : Nat → Heap → Prop) : Prop where
  mem : it ∈ fp
  obj : ∀ i h, tn i h → ∀ b ∈ fp, ∃ o, h.get? b = some o ∧ ∀ v, o.data ≠ .cell v
  keep : ∀ i h h', tn i h → (∀ b ∈ fp, ∀ o, h.get? b = some o → h'.get? b = some o) → tn i h'
  item : ∀ (X : Cx), X.prog = P → X.w = w → X.K = K → X.calm = true → ∀ (i : Nat) (pins : List (Addr × Obj)) (s : Shared) (σ : St) (H : Hp) (E : Value → Shared → Prop), Inv X pins σ H s → (∀ b ∈ fp, FpOk X pins H b) → tn i s.heap → J.go i H →
    wpAny (model P w) X.A (pyNext (.ref it)) (fun r s1 => ∃ u, r = some u ∧
      wpAny (model P w) X.A (letOwnedTupleGo tg (.ref it) u) (fun _ s2 => ∃ x H', Inv X pins σ H' s2 ∧ RelV x u ∧ J.yld i H x H' ∧ tn (i + 1) s2.heap ∧ ∀ b ∈ fp, H' b = none) E s1) E s
  done : ∀ (X : Cx), X.prog = P → X.w = w → X.K = K → X.calm = true → ∀ (i : Nat) (pins : List (Addr × Obj)) (s : Shared) (σ : St) (H : Hp) (E : Value → Shared → Prop), Inv X pins σ H s → (∀ b ∈ fp, FpOk X pins H b) → tn i s.heap → J.stop i H →
    wpAny (model P w) X.A (pyNext (.ref it)) (fun r s1 => r = none ∧ Inv X pins σ H s1) E s
  self : ∀ (A : Around) (i : Nat) (s : Shared) (Q : Value → Shared → Prop) (E : Value → Shared → Prop), tn i s.heap → Q (.ref it) s → wpAny (model P w) A (pyIter (.ref it)) Q E s
noncomputable abbrev TI := St → Hp → (It → Hp → Prop) → Prop
noncomputable def PIE (X : Cx) (pins : List (Addr × Obj)) (σ : St) (tg : Expr) (R : It → Hp → Prop) (itv : Value) (s2 : Shared) : Prop :=
  ∃ (it : Addr) (fp : List Addr) (tn : Nat → Heap → Prop) (J : It) (H' : Hp), itv = .ref it ∧ Inv X pins σ H' s2 ∧ Turn X.prog X.w X.K tg J fp it tn ∧ tn 0 s2.heap ∧ (∀ b ∈ fp, FpOk X pins H' b) ∧ R J H'
noncomputable def PI (X : Cx) (tg iter : Expr) (wi : TI) : Prop :=
  ∀ (pins : List (Addr × Obj)) (s : Shared) (σ : St) (H : Hp) (R : It → Hp → Prop), Inv X pins σ H s → wi σ H R →
    wpAny (model X.prog X.w) X.A (eval iter X.env) (fun v s1 => wpAny (model X.prog X.w) X.A (pyIter v) (PIE X pins σ tg R) X.xe s1) X.xe s
theorem go_of {M : Model} {A : Around} {E : Value → Shared → Prop} {s : Shared} {tg : Expr} {it : Addr} {u : Value} {o : Obj} {n : String} {vs : Array Value} {Q : Unit → Shared → Prop} (ho : s.heap.get? it = some o) (hc : o.cls = .type n) (hd : o.data = .fields vs)
    (hn : ["enumerate", "zip", "dict_itemiterator", "dict_reverseitemiterator", "odict_iterator", "itertools.zip_longest", "itertools.pairwise"].contains n = false) (hQ : Q () s) : wpAny M A (letOwnedTupleGo tg (.ref it) u) Q E s := by
  unfold letOwnedTupleGo
  cases tg <;> first
    | exact wpAny_pure hQ
    | (cases u <;> first
        | exact wpAny_pure hQ
        | (refine wpAny_bind (wpAny_load ho ?_)
           rw [hc, hd]
           show wpAny M A (if (["enumerate", "zip", "dict_itemiterator", "dict_reverseitemiterator", "odict_iterator", "itertools.zip_longest", "itertools.pairwise"].contains n && vs[0]? == some (rawInt _)) = true then _ else _) Q E s
           rw [if_neg (by intro h; rw [hn, Bool.false_and] at h; cases h)]
           exact wpAny_pure hQ))
noncomputable def Itl (K : PySem.W.Frag) (a : Addr) : It :=
  ⟨fun i H => ∃ xs x, SqL K H a xs ∧ xs[i]? = some x, fun i H x H' => H' = H ∧ ∀ xs, SqL K H a xs → xs[i]? = some x, fun i H => ∃ xs, SqL K H a xs ∧ xs.length ≤ i⟩
noncomputable def Itr (lo : Int) (n : Nat) : It := ⟨fun i _ => i < n, fun i H x H' => H' = H ∧ x = .int (lo + i), fun i _ => n ≤ i⟩
theorem turn_list {P : Program} {w : World} {K : PySem.W.Frag} {tg : Expr} (a it : Addr) : Turn P w K tg (Itl K a) [it] it (fun i h => h.IsListIter it a i) where
  mem := by simp
  obj := fun i h st b hb => by
    have e : b = it := by simpa using hb
    subst e
    obtain ⟨o, e, c, d⟩ := st
    exact ⟨o, e, fun v z => by rw [d] at z; cases z⟩
  keep := fun i h h' st k => st.at fun o e => k it (by simp) o e
  item := by
    intro X hP hw hK hc i pins s σ H E I hf st hg
    subst hP hw hK
    obtain ⟨xs, x, hq, hx⟩ := hg
    obtain ⟨its, rv, p, hz⟩ := I.list hq
    obtain ⟨u, hu, ru⟩ := rv.get hx
    obtain ⟨f0, f1, f2, f3, f4, f5⟩ := hf it (by simp)
    refine wpAny_pyNext_list_item st p.isList (x := u) (by simpa using hu) fun h' st' sb => ?_
    have I1 : Inv X pins σ H { s with heap := h' } := I.turned (t' := s.toks) (fun b o hb e => (sb.2 b hb).trans e) f0 f1 f3 f4 f5
    obtain ⟨o, e, c, d⟩ := id st'
    exact ⟨u, rfl, go_of (s := { s with heap := h' }) e c d (by decide) ⟨x, H, I1, ru, ⟨rfl, fun ys hy => by rw [I.list_inj hy hq]; exact hx⟩, st', fun b hb => (hf b hb).1⟩⟩
  done := by
    intro X hP hw hK hc i pins s σ H E I hf st hg
    subst hP hw hK
    obtain ⟨xs, hq, hx⟩ := hg
    obtain ⟨its, rv, p, hz⟩ := I.list hq
    obtain ⟨f0, f1, f2, f3, f4, f5⟩ := hf it (by simp)
    have hl := rv.length
    exact wpAny_pyNext_list_end (I.ok.hd hc) st p.isList (by simp; omega) fun h' eb => ⟨rfl, I.turned (t' := s.toks) (fun b o hb e => eb b o hb e) f0 f1 f3 f4 f5⟩
  self := fun _ _ _ _ _ st h => wpAny_pyIter_listiter st h
theorem turn_range {P : Program} {w : World} {K : PySem.W.Frag} {tg : Expr} (it : Addr) (lo : Int) (n : Nat) : Turn P w K tg (Itr lo n) [it] it (fun i h => IsRangeIter h it (lo + (i : Nat) * 1) ((n : Int) - (i : Nat)) 1) where
  mem := by simp
  obj := fun i h st b hb => by
    have e : b = it := by simpa using hb
    subst e
    exact ⟨_, st, fun v z => by
      have z' : Data.fields _ = Data.cell v := z
      cases z'⟩
  keep := fun i h h' st k => k it (by simp) _ st
  item := by
    intro X hP hw hK hc i pins s σ H E I hf st hg
    subst hP hw hK
    obtain ⟨f0, f1, f2, f3, f4, f5⟩ := hf it (by simp)
    have W := Walks.range (prog := X.prog) (w := X.w) (I.ok.hd hc) it lo 1 n
    refine W.item i s _ _ hg st fun v h' tk hv st' kk => ?_
    obtain ⟨t, rfl⟩ := hv
    have I1 : Inv X pins σ H { s with heap := h', toks := tk } := I.turned (fun b o hb e => kk b o (by simpa using hb) e) f0 f1 f3 f4 f5
    refine ⟨_, rfl, go_of (s := { s with heap := h', toks := tk }) (n := "range_iterator") st' rfl rfl (by decide) ⟨.int (lo + i), H, I1, ⟨t, ?_⟩, ⟨rfl, rfl⟩, st', fun b hb => (hf b hb).1⟩⟩
    rw [Int.mul_one]
  done := by
    intro X hP hw hK hc i pins s σ H E I hf st hg
    subst hP hw hK
    obtain ⟨f0, f1, f2, f3, f4, f5⟩ := hf it (by simp)
    exact wpAny_pyNext_range_end (I.ok.hd hc) st (by have : n ≤ i := hg; omega) fun h' eb => ⟨rfl, I.turned (t' := s.toks) (fun b o hb e => eb b o hb e) f0 f1 f3 f4 f5⟩
  self := fun _ _ _ _ _ st h => wpAny_pyIter_rangeiter st h
end L2
namespace L2
open PySem PySem.Spec PyProof.Rows
section
variable {X : Cx} {tg : Expr}
noncomputable def iList (K : PySem.W.Frag) (tl : TE) : TI := fun σ H R => tl σ H fun x H1 => ∃ a, x = .ref a ∧ (∃ xs, SqL K H1 a xs) ∧ R (Itl K a) H1
theorem pi_list {l : Expr} {tl : TE} (hl : PE X l tl) : PI X tg l (iList X.K tl) := by
  intro pins s σ H R I h
  refine thn (hl pins s σ H _ I h) fun v s1 ⟨x, H1, I1, r1, q1⟩ => ?_
  obtain ⟨a, e, ⟨xs, hq⟩, q⟩ := q1
  subst e
  cases r1
  obtain ⟨its, rv, p, hz⟩ := I1.list hq
  refine wpAny_pyIter_list p.isList ?_
  refine ⟨s1.heap.objs.size, [s1.heap.objs.size], _, _, H1, rfl, I1.kept (t' := s1.toks) fun b o e => Heap.get?_push_of_some _ e, turn_list a _, ⟨_, Heap.get?_push_size _ rfl, rfl, rfl⟩, fun b hb => ?_, q⟩
  have e : b = s1.heap.objs.size := by simpa using hb
  subst e
  exact I1.fpOk (Nat.le_refl _) (I1.hok.fresh (Nat.le_refl _))
theorem range_it {pins : List (Addr × Obj)} {σ : St} {H : Hp} {s : Shared} {R : It → Hp → Prop} {E : Value → Shared → Prop} {lo hi : Int} {t u v : Tok} {tk : Nat} (I : Inv X pins σ H s) (h1 : -(2 ^ 62) ≤ lo) (h2 : lo < 2 ^ 62) (h3 : -(2 ^ 62) ≤ hi) (h4 : hi < 2 ^ 62)
    (q : R (Itr lo (hi - lo).toNat) H) : wpAny (model X.prog X.w) X.A (pyIter (.ref s.heap.objs.size)) (PIE X pins σ tg R) E { s with heap := s.heap.push { cls := .type "range", data := .fields #[.int lo t, .int hi u, .int 1 v] }, toks := tk } := by
  refine wpAny_pyIter_range (IsRange.new ..) (small_one h1 h2 h3 h4) ?_
  have I1 : Inv X pins σ H { s with heap := s.heap.push { cls := .type "range", data := .fields #[.int lo t, .int hi u, .int 1 v] }, toks := tk } := I.kept fun b o e => Heap.get?_push_of_some _ e
  refine ⟨(s.heap.push { cls := .type "range", data := .fields #[.int lo t, .int hi u, .int 1 v] }).objs.size, [(s.heap.push { cls := .type "range", data := .fields #[.int lo t, .int hi u, .int 1 v] }).objs.size], _, _, H, rfl,
    I1.kept (t' := tk) fun b o e => Heap.get?_push_of_some _ e, turn_range _ lo (hi - lo).toNat, ?_, fun b hb => ?_, q⟩
  · have e1 : lo + ((0 : Nat) : Int) * 1 = lo := by simp
    have e2 : (((hi - lo).toNat : Nat) : Int) - ((0 : Nat) : Int) = Builtin.Range.rangeSize lo hi 1 := by rw [rangeSize_one]; split <;> omega
    show IsRangeIter _ _ (lo + ((0 : Nat) : Int) * 1) ((((hi - lo).toNat : Nat) : Int) - ((0 : Nat) : Int)) 1
    rw [e1, e2]
    exact Heap.get?_push_size _ rfl
  · have e : b = (s.heap.push { cls := .type "range", data := .fields #[.int lo t, .int hi u, .int 1 v] }).objs.size := by simpa using hb
    subst e
    exact I1.fpOk (Nat.le_refl _) (I1.hok.fresh (Nat.le_refl _))
noncomputable def iRng1 (ta : TA) : TI := fun σ H R => ta σ H fun vs H1 => ∃ j : Int, vs = [.int j] ∧ -(2 ^ 62) ≤ j ∧ j < 2 ^ 62 ∧ R (Itr 0 j.toNat) H1
noncomputable def iRng2 (ta : TA) : TI := fun σ H R => ta σ H fun vs H1 => ∃ i j : Int, vs = [.int i, .int j] ∧ (-(2 ^ 62) ≤ i ∧ i < 2 ^ 62 ∧ -(2 ^ 62) ≤ j ∧ j < 2 ^ 62) ∧ R (Itr i (j - i).toNat) H1
theorem pi_range1 {a : Expr} {ta : TA} {p pos : Pos} (hg : Gl X "range") (hm : X.mg "range" = none) (ha : PA X [a] ta) (hs : starEach [a] X.env = [(false, eval a X.env)] := by rfl) : PI X tg (.Call (.Name "range" p) [a] [] pos) (iRng1 ta) := by
  intro pins s σ H R I h
  refine Call_ (ld_blt I hg hm boot_range (PyProof.Rows.callWith_type1 (thn (ha pos pins s σ H _ I h) fun us s1 ⟨vs, H1, I1, r1, q1⟩ => ?_) hs rfl))
  obtain ⟨j, e, q1, q2, q⟩ := q1
  subst e
  cases r1 with
  | cons r rr =>
    cases rr
    obtain ⟨t, rfl⟩ := r
    exact call_range_1 (range_it I1 (by omega) (by omega) q1 q2 (by simpa using q))
theorem pi_range2 {a b : Expr} {ta : TA} {p pos : Pos} (hg : Gl X "range") (hm : X.mg "range" = none) (ha : PA X [a, b] ta) (hs : starEach [a, b] X.env = [(false, eval a X.env), (false, eval b X.env)] := by rfl) (hs2 : starEach [b] X.env = [(false, eval b X.env)] := by rfl) :
    PI X tg (.Call (.Name "range" p) [a, b] [] pos) (iRng2 ta) := by
  intro pins s σ H R I h
  refine Call_ (ld_blt I hg hm boot_range (PyProof.Rows.callWith_type1 (thn (ha pos pins s σ H _ I h) fun us s1 ⟨vs, H1, I1, r1, q1⟩ => ?_) (by rw [hs, hs2]) (by rw [hs2]; rfl)))
  obtain ⟨i, j, e, ⟨q1, q2, q3, q4⟩, q⟩ := q1
  subst e
  cases r1 with
  | cons r rr =>
    cases rr with
    | cons r' rr =>
      cases rr
      obtain ⟨t, rfl⟩ := r
      obtain ⟨t', rfl⟩ := r'
      exact call_range_2 (range_it I1 q1 q2 q3 q4 q)
noncomputable def tFor (wi : TI) (g : TG) (tb : TS) : TS := fun D σ H => wi σ H fun J H1 => ∃ W : Nat → Nat → St → Hp → Prop, (∃ m, W 0 m σ H1) ∧ ∀ i m σ H, W i m σ H →
  (J.stop i H ∧ D.nx σ H) ∨ (J.go i H ∧ ∃ N : St → Hp → Prop, (∀ σ' H', N σ' H' → ∃ m', m' < m ∧ W (i + 1) m' σ' H') ∧ ∀ x H', J.yld i H x H' → g x σ H' fun σ2 H2 => tb { D with nx := N, ct := N, bk := D.nx } σ2 H2)
noncomputable def pinsAt (fp : List Addr) (h : Heap) : List (Addr × Obj) := fp.filterMap fun b => (h.get? b).map fun o => (b, o)
theorem mem_pinsAt {fp : List Addr} {h : Heap} {b : Addr} {o : Obj} (hb : b ∈ fp) (e : h.get? b = some o) : (b, o) ∈ pinsAt fp h := List.mem_filterMap.mpr ⟨b, hb, by rw [e]; rfl⟩
theorem of_pinsAt {fp : List Addr} {h : Heap} {p : Addr × Obj} (hp : p ∈ pinsAt fp h) : p.1 ∈ fp ∧ h.get? p.1 = some p.2 := by
  obtain ⟨b, hb, e⟩ := List.mem_filterMap.mp hp
  cases q : h.get? b with
  | none => rw [q] at e; cases e
  | some o =>
    rw [q] at e
    have e' : (b, o) = p := Option.some.inj e
    subst e'
    exact ⟨hb, q⟩
theorem Inv.pinned {pins : List (Addr × Obj)} {σ : St} {H : Hp} {s : Shared} {fp : List Addr} (I : Inv X pins σ H s) (hf : ∀ b ∈ fp, FpOk X pins H b) (ho : ∀ b ∈ fp, ∃ o, s.heap.get? b = some o ∧ ∀ v, o.data ≠ .cell v) : Inv X (pins ++ pinsAt fp s.heap) σ H s :=
  I.pins_of fun p hp => (List.mem_append.mp hp).elim (fun z => I.pin p (List.mem_append_right _ z)) fun z => by
    obtain ⟨hb, e⟩ := of_pinsAt z
    obtain ⟨f0, f1, f2, _⟩ := hf p.1 hb
    obtain ⟨o, e', d⟩ := ho p.1 hb
    rw [e] at e'; cases e'
    exact ⟨e, f0, f1, f2, d⟩
theorem Inv.unpinned {pins pl : List (Addr × Obj)} {σ : St} {H : Hp} {s : Shared} (I : Inv X (pins ++ pl) σ H s) : Inv X pins σ H s := I.pins_of fun p hp => I.pin p (List.mem_append_right _ (List.mem_append_left _ hp))
theorem ps_for {iter : Expr} {body : List Stmt} {wi : TI} {g : TG} {tb : TS} {pos : Pos} (hp : PassesOwn (model X.prog X.w) X.A X.env X.xe) (hc : X.calm = true) (hi : PI X tg iter wi) (hg : PG X tg g) (hb : PSs X body tb)
    (hs : ∀ x, foldedSetIterable iter X.env x = pure x := by intro _; rfl) : PS X (.For tg iter body [] pos) (tFor wi g tb) := by
  intro pins s σ H D I h
  refine wpAny_For (thn (hi pins s σ H _ I h) fun v s1 h1 => thn h1 fun itv s2 h2 => ?_) hs
  obtain ⟨it, fp, tn, J, H2, e, I2, T, st2, f2, W, ⟨m0, w0⟩, turn⟩ := h2
  subst e
  -- what stays true of the iterator's objects through the loop
  have stat : ∀ {H' : Hp}, (∀ b ∈ fp, H' b = none) → ∀ b ∈ fp, FpOk X pins H' b := fun hn b hb => ⟨hn b hb, (f2 b hb).2⟩
  refine codeAny_forLoop_any (fun n s' => ∃ i σ' H', Inv X pins σ' H' s' ∧ tn i s'.heap ∧ (∀ b ∈ fp, H' b = none) ∧ W i n σ' H') ?_ m0 ⟨0, σ, H2, I2, st2, fun b hb => (f2 b hb).1, w0⟩
  rintro n s3 ⟨i, σ3, H3, I3, st3, fr3, w3⟩
  rcases turn i n σ3 H3 w3 with ⟨stop, qn⟩ | ⟨go, N, hN, step⟩
  · refine wpAny_passesOwn hp (thn (T.done X rfl rfl rfl hc i pins s3 σ3 H3 X.xe I3 (stat fr3) st3 stop) fun r s4 ⟨hr, I4⟩ => ?_)
    subst hr
    exact wpAny_execs_nil ⟨σ3, H3, I4, qn⟩
  · refine wpAny_passesOwn hp (thn (T.item X rfl rfl rfl hc i pins s3 σ3 H3 X.xe I3 (stat fr3) st3 go) fun r s4 ⟨u, hr, h4⟩ => ?_)
    subst hr
    refine wpAny_passesOwn hp (thn h4 fun _ s5 ⟨x, H5, I5, r5, y5, st5, fr5⟩ => ?_)
    have I5' := I5.pinned (stat fr5) (T.obj _ _ st5)
    refine wpAny_passesOwn hp (thn (hg _ s5 σ3 H5 x u _ I5' r5 (step x H5 y5)) fun _ s6 ⟨σ6, H6, I6, q6⟩ => ?_)
    refine wpAny_passesOwn hp (thn (hb _ s6 σ6 H6 _ I6 q6) fun f s7 q7 => ?_)
    have again : ∀ {σ7 : St} {H7 : Hp}, Inv X (pins ++ pinsAt fp s5.heap) σ7 H7 s7 → N σ7 H7 → ∃ m, m < n ∧ ∃ i σ' H', Inv X pins σ' H' s7 ∧ tn i s7.heap ∧ (∀ b ∈ fp, H' b = none) ∧ W i m σ' H' := fun {σ7 H7} I7 n7 => by
      obtain ⟨m', hm, w7⟩ := hN σ7 H7 n7
      refine ⟨m', hm, i + 1, σ7, H7, I7.unpinned, T.keep _ _ _ st5 fun b hb o e => (I7.pin (b, o) (List.mem_append_right _ (List.mem_append_right _ (mem_pinsAt hb e)))).1, fun b hb => ?_, w7⟩
      obtain ⟨o, e, d⟩ := T.obj _ _ st5 b hb
      exact (I7.pin (b, o) (List.mem_append_right _ (List.mem_append_right _ (mem_pinsAt hb e)))).2.1
    cases f with
    | next => obtain ⟨σ7, H7, I7, n7⟩ := q7; exact again I7 n7
    | cont => obtain ⟨σ7, H7, I7, n7⟩ := q7; exact again I7 n7
    | brk => obtain ⟨σ7, H7, I7, q7⟩ := q7; exact ⟨σ7, H7, I7.unpinned, q7⟩
    | ret v => obtain ⟨x7, σ7, H7, I7, r7, q7⟩ := q7; exact ⟨x7, σ7, H7, I7.unpinned, r7, q7⟩
end
theorem for_list {K : PySem.W.Frag} {a : Addr} {xs : List V} {g : TG} {tb : TS} {D : Ends} {σ : St} {H : Hp} (Pv : Nat → St → Hp → Prop) (h0 : Pv 0 σ H) (hl : ∀ i σ H, i ≤ xs.length → Pv i σ H → SqL K H a xs)
    (hs : ∀ i x σ H, xs[i]? = some x → Pv i σ H → g x σ H fun σ2 H2 => tb { D with nx := Pv (i + 1), ct := Pv (i + 1), bk := D.nx } σ2 H2) (hd : ∀ σ H, Pv xs.length σ H → D.nx σ H) :
    ∃ W : Nat → Nat → St → Hp → Prop, (∃ m, W 0 m σ H) ∧ ∀ i m σ H, W i m σ H →
      ((Itl K a).stop i H ∧ D.nx σ H) ∨ ((Itl K a).go i H ∧ ∃ N : St → Hp → Prop, (∀ σ' H', N σ' H' → ∃ m', m' < m ∧ W (i + 1) m' σ' H') ∧ ∀ x H', (Itl K a).yld i H x H' → g x σ H' fun σ2 H2 => tb { D with nx := N, ct := N, bk := D.nx } σ2 H2) := by
  refine ⟨fun i m σ H => m = xs.length - i ∧ i ≤ xs.length ∧ Pv i σ H, ⟨xs.length, by simp, Nat.zero_le _, h0⟩, ?_⟩
  rintro i m σ H ⟨rfl, hi, p⟩
  have q := hl i σ H hi p
  by_cases hlt : i < xs.length
  · refine .inr ⟨⟨xs, xs[i], q, by simp [hlt]⟩, Pv (i + 1), fun σ' H' p' => ⟨xs.length - (i + 1), by omega, rfl, hlt, p'⟩, fun x H' y => ?_⟩
    obtain ⟨e, y⟩ := y
    subst e
    exact hs i x σ _ (y xs q) p
  · have e : i = xs.length := by omega
    subst e
    exact .inl ⟨⟨xs, q, Nat.le_refl _⟩, hd σ H p⟩
theorem for_range {lo : Int} {n : Nat} {g : TG} {tb : TS} {D : Ends} {σ : St} {H : Hp} (Pv : Nat → St → Hp → Prop) (h0 : Pv 0 σ H)
    (hs : ∀ i σ H, i < n → Pv i σ H → g (.int (lo + i)) σ H fun σ2 H2 => tb { D with nx := Pv (i + 1), ct := Pv (i + 1), bk := D.nx } σ2 H2) (hd : ∀ σ H, Pv n σ H → D.nx σ H) :
    ∃ W : Nat → Nat → St → Hp → Prop, (∃ m, W 0 m σ H) ∧ ∀ i m σ H, W i m σ H →
      ((Itr lo n).stop i H ∧ D.nx σ H) ∨ ((Itr lo n).go i H ∧ ∃ N : St → Hp → Prop, (∀ σ' H', N σ' H' → ∃ m', m' < m ∧ W (i + 1) m' σ' H') ∧ ∀ x H', (Itr lo n).yld i H x H' → g x σ H' fun σ2 H2 => tb { D with nx := N, ct := N, bk := D.nx } σ2 H2) := by
  refine ⟨fun i m σ H => m = n - i ∧ i ≤ n ∧ Pv i σ H, ⟨n, by simp, Nat.zero_le _, h0⟩, ?_⟩
  rintro i m σ H ⟨rfl, hi, p⟩
  by_cases hlt : i < n
  · refine .inr ⟨hlt, Pv (i + 1), fun σ' H' p' => ⟨n - (i + 1), by omega, rfl, hlt, p'⟩, fun x H' y => ?_⟩
    obtain ⟨e, y⟩ := y
    subst e y
    exact hs i σ _ hlt p
  · have e : i = n := by omega
    subst e
    exact .inl ⟨Nat.le_refl _, hd σ H p⟩
end L2
namespace L2
open PySem PySem.Spec PyProof.Rows
noncomputable abbrev R2 := V → V → Hp → VK → Prop
noncomputable def OpR (X : Cx) (f : Value → Value → Sem Value) (r : R2) : Prop :=
  ∀ (pins : List (Addr × Obj)) (s : Shared) (σ : St) (H : Hp) (x y : V) (v u : Value) (Q : VK), Inv X pins σ H s → RelV x v → RelV y u → r x y H Q →
    wpAny (model X.prog X.w) X.A (f v u) (EP X pins σ Q) X.xe s
noncomputable def UnR (X : Cx) (f : Value → Sem Value) (r : V → Hp → VK → Prop) : Prop :=
  ∀ (pins : List (Addr × Obj)) (s : Shared) (σ : St) (H : Hp) (x : V) (v : Value) (Q : VK), Inv X pins σ H s → RelV x v → r x H Q →
    wpAny (model X.prog X.w) X.A (f v) (EP X pins σ Q) X.xe s
noncomputable def CallR (X : Cx) (f : Value) (r : List V → Hp → VK → Prop) : Prop :=
  ∀ (pins : List (Addr × Obj)) (s : Shared) (σ : St) (H : Hp) (xs : List V) (us : List Value) (Q : VK), Inv X pins σ H s → Vals xs us → r xs H Q →
    wpAny (model X.prog X.w) X.A (call f us) (EP X pins σ Q) X.xe s
noncomputable def tOp (r : R2) (ta tb : TE) : TE := fun σ H Q => ta σ H fun x H1 => tb σ H1 fun y H2 => r x y H2 Q
noncomputable def tUn (r : V → Hp → VK → Prop) (ta : TE) : TE := fun σ H Q => ta σ H fun x H1 => r x H1 Q
noncomputable def rI (C : Int → Int → Prop) (g : Int → Int → V) : R2 := fun x y H Q => ∃ i j, x = .int i ∧ y = .int j ∧ C i j ∧ Q (g i j) H
noncomputable def rI0 (g : Int → Int → V) : R2 := fun x y H Q => ∃ i j, x = .int i ∧ y = .int j ∧ Q (g i j) H
noncomputable def rU (g : Int → V) : V → Hp → VK → Prop := fun x H Q => ∃ i, x = .int i ∧ Q (g i) H
section
variable {X : Cx} {a b c : Expr} {ta tb tc : TE} {pos : Pos}
theorem binT (ha : PE X a ta) (hb : PE X b tb) {pins : List (Addr × Obj)} {s : Shared} {σ : St} {H : Hp} {R : V → V → Hp → Prop} (I : Inv X pins σ H s)
    (h : ta σ H fun x H1 => tb σ H1 fun y H2 => R x y H2) {Q : Value → Shared → Prop} {f : Value → Value → Sem Value}
    (hf : ∀ v u s2 x y H2, Inv X pins σ H2 s2 → RelV x v → RelV y u → R x y H2 → wpAny (model X.prog X.w) X.A (f v u) Q X.xe s2) :
    wpAny (model X.prog X.w) X.A (eval a X.env) (fun v s₁ => wpAny (model X.prog X.w) X.A (eval b X.env) (fun u s₂ => wpAny (model X.prog X.w) X.A (f v u) Q X.xe s₂) X.xe s₁) X.xe s := by
  refine thn (ha pins s σ H _ I h) fun v s1 ⟨x, H1, I1, r1, q1⟩ => ?_
  refine thn (hb pins s1 σ H1 _ I1 q1) fun u s2 ⟨y, H2, I2, r2, q2⟩ => ?_
  exact hf v u s2 x y H2 I2 r1 r2 q2
theorem pe_op {op : Operator} {r : R2} (ho : OpR X (binaryOp op) r) (ha : PE X a ta) (hb : PE X b tb) : PE X (.BinOp a op b pos) (tOp r ta tb) := by
  intro pins s σ H Q I h
  exact wpAny_BinOp (binT ha hb I h fun v u s2 x y H2 I2 rx ry q => ho pins s2 σ H2 x y v u Q I2 rx ry q)
theorem pe_un {op : UnaryOp} {r : V → Hp → VK → Prop} (ho : UnR X (unaryOp op) r) (ha : PE X a ta) : PE X (.UnaryOp op a pos) (tUn r ta) := by
  intro pins s σ H Q I h
  exact UnaryOp_ (thn (ha pins s σ H _ I h) fun v s1 ⟨x, H1, I1, r1, q1⟩ => ho pins s1 σ H1 x v Q I1 r1 q1)
theorem opI {f : Value → Value → Sem Value} {C : Int → Int → Prop} {g : Int → Int → Int}
    (rule : ∀ (i j : Int) (t u : Tok) (s : Shared) (Q : Value → Shared → Prop) (E : Value → Shared → Prop), C i j → Q (.int (g i j) s.toks) { s with toks := s.toks + 1 } → wpAny (model X.prog X.w) X.A (f (.int i t) (.int j u)) Q E s) :
    OpR X f (rI C fun i j => .int (g i j)) := by
  intro pins s σ H x y v u Q I rx ry h
  obtain ⟨i, j, rfl, rfl, hc, q⟩ := h
  obtain ⟨t, rfl⟩ := rx
  obtain ⟨t', rfl⟩ := ry
  exact rule i j t t' s _ _ hc ⟨.int (g i j), H, I.tok _, ⟨_, rfl⟩, q⟩
theorem opI0 {f : Value → Value → Sem Value} {g : Int → Int → Int}
    (rule : ∀ (i j : Int) (t u : Tok) (s : Shared) (Q : Value → Shared → Prop) (E : Value → Shared → Prop), Q (.int (g i j) s.toks) { s with toks := s.toks + 1 } → wpAny (model X.prog X.w) X.A (f (.int i t) (.int j u)) Q E s) :
    OpR X f (rI0 fun i j => .int (g i j)) := by
  intro pins s σ H x y v u Q I rx ry h
  obtain ⟨i, j, rfl, rfl, q⟩ := h
  obtain ⟨t, rfl⟩ := rx
  obtain ⟨t', rfl⟩ := ry
  exact rule i j t t' s _ _ ⟨.int (g i j), H, I.tok _, ⟨_, rfl⟩, q⟩
theorem opB0 {f : Value → Value → Sem Value} {g : Int → Int → Bool}
    (rule : ∀ (i j : Int) (t u : Tok) (s : Shared) (Q : Value → Shared → Prop) (E : Value → Shared → Prop), Q (.bool (g i j)) s → wpAny (model X.prog X.w) X.A (f (.int i t) (.int j u)) Q E s) :
    OpR X f (rI0 fun i j => .bl (g i j)) := by
  intro pins s σ H x y v u Q I rx ry h
  obtain ⟨i, j, rfl, rfl, q⟩ := h
  obtain ⟨t, rfl⟩ := rx
  obtain ⟨t', rfl⟩ := ry
  exact rule i j t t' s _ _ ⟨.bl (g i j), H, I, rfl, q⟩
noncomputable def CMul (i j : Int) : Prop := (-(2 ^ 64) < i ∧ i < 2 ^ 64) ∨ (-(2 ^ 64) < j ∧ j < 2 ^ 64)
theorem CMul.ok {i j : Int} (h : CMul i j) : IntMulOk i j := by
  rcases h with ⟨h1, h2⟩ | ⟨h1, h2⟩
  · exact .of_left (intBits_le_64 h1 h2)
  · exact .of_right (intBits_le_64 h1 h2)
theorem op_add : OpR X (binaryOp .Add) (rI0 fun i j => .int (i + j)) := opI0 fun _ _ _ _ _ _ _ q => add_int q
theorem op_sub : OpR X (binaryOp .Sub) (rI0 fun i j => .int (i - j)) := opI0 fun _ _ _ _ _ _ _ q => sub_int q
theorem op_mul : OpR X (binaryOp .Mult) (rI CMul fun i j => .int (i * j)) := opI fun _ _ _ _ _ _ _ hc q => mul_int q hc.ok
theorem op_mod : OpR X (binaryOp .Mod) (rI (fun _ j => 0 < j) fun i j => .int (i % j)) := opI fun i j _ _ _ _ _ hc q => by
  have h1 : (0 : Int) < j := hc
  exact mod_int' (by omega) (by rw [Int.fmod_eq_emod_of_nonneg i (by omega)]; exact q)
theorem unI {f : Value → Sem Value} {g : Int → Int}
    (rule : ∀ (i : Int) (t : Tok) (s : Shared) (Q : Value → Shared → Prop) (E : Value → Shared → Prop), Q (.int (g i) s.toks) { s with toks := s.toks + 1 } → wpAny (model X.prog X.w) X.A (f (.int i t)) Q E s) :
    UnR X f (rU fun i => .int (g i)) := by
  intro pins s σ H x v Q I rx h
  obtain ⟨i, rfl, q⟩ := h
  obtain ⟨t, rfl⟩ := rx
  exact rule i t s _ _ ⟨.int (g i), H, I.tok _, ⟨_, rfl⟩, q⟩
theorem un_neg : UnR X (unaryOp .USub) (rU fun i => .int (-i)) := unI fun _ _ _ _ _ q => neg_int q
end
noncomputable def scal : V → V → Bool
  | .non, .non => true | .non, .int _ => true | .int _, .non => true | .non, .bl _ => true | .bl _, .non => true | .non, .str _ => true | .str _, .non => true
  | .int _, .int _ => true | .bl _, .bl _ => true | .str _, .str _ => true | .byt _, .byt _ => true
  | .int _, .str _ => true | .str _, .int _ => true | .bl _, .str _ => true | .str _, .bl _ => true
  | _, _ => false
noncomputable def rEq : R2 := fun x y H Q => scal x y = true ∧ Q (.bl (decide (x = y))) H
noncomputable def rNe : R2 := fun x y H Q => scal x y = true ∧ Q (.bl (!decide (x = y))) H
theorem dec_int {i j : Int} : decide (V.int i = V.int j) = (i == j) := by
  rw [Bool.eq_iff_iff]
  simp
theorem dec_bl {i j : Bool} : decide (V.bl i = V.bl j) = (i == j) := by
  rw [Bool.eq_iff_iff]
  simp
theorem dec_str {i j : Str} : decide (V.str i = V.str j) = (i == j) := by
  rw [Bool.eq_iff_iff]
  simp
theorem dec_byt {i j : Array UInt8} : decide (V.byt i = V.byt j) = (i.toList == j.toList) := by
  rw [Bool.eq_iff_iff]
  cases i
  cases j
  simp
section
variable {X : Cx} {a b c : Expr} {ta tb tc : TE} {pos : Pos}
theorem fin_bl {pins : List (Addr × Obj)} {σ : St} {H : Hp} {s : Shared} {Q : VK} {k k' : Bool} (I : Inv X pins σ H s) (q : Q (.bl k) H) (e : k = k') : EP X pins σ Q (.bool k') s := by
  subst e
  exact ⟨.bl k, H, I, rfl, q⟩
theorem op_eq : OpR X (compareOp .Eq) rEq := by
  intro pins s σ H x y v u Q I rx ry h
  obtain ⟨hs, q⟩ := h
  cases x with
  | non =>
    cases rx
    cases y with
    | non => cases ry; exact PySem.EqNone.eq_none_none (fin_bl I q (by simp))
    | bl j => cases ry; exact PySem.EqNone.eq_none_bool (fin_bl I q (by simp))
    | int j => obtain ⟨t', rfl⟩ := ry; exact PySem.EqNone.eq_none_int (fin_bl I q (by simp))
    | str j => obtain ⟨t', rfl⟩ := ry; exact PySem.EqNone.eq_none_str (fin_bl I q (by simp))
    | _ => exact absurd (show false = true from hs) Bool.false_ne_true
  | bl i =>
    cases rx
    cases y with
    | non => cases ry; exact PySem.EqNone.eq_bool_none (fin_bl I q (by simp))
    | bl j => cases ry; exact eq_bool (fin_bl I q dec_bl)
    | str j => obtain ⟨t', rfl⟩ := ry; exact PySem.EqMixed.eq_bool_str (fin_bl I q (by simp))
    | _ => exact absurd (show false = true from hs) Bool.false_ne_true
  | int i =>
    obtain ⟨t, rfl⟩ := rx
    cases y with
    | non => cases ry; exact PySem.EqNone.eq_int_none (fin_bl I q (by simp))
    | int j => obtain ⟨t', rfl⟩ := ry; exact eq_int (fin_bl I q dec_int)
    | str j => obtain ⟨t', rfl⟩ := ry; exact PySem.EqMixed.eq_int_str (fin_bl I q (by simp))
    | _ => exact absurd (show false = true from hs) Bool.false_ne_true
  | str i =>
    obtain ⟨t, rfl⟩ := rx
    cases y with
    | non => cases ry; exact PySem.EqNone.eq_str_none (fin_bl I q (by simp))
    | bl j => cases ry; exact PySem.EqMixed.eq_str_bool (fin_bl I q (by simp))
    | int j => obtain ⟨t', rfl⟩ := ry; exact PySem.EqMixed.eq_str_int (fin_bl I q (by simp))
    | str j => obtain ⟨t', rfl⟩ := ry; exact eq_str (fin_bl I q dec_str)
    | _ => exact absurd (show false = true from hs) Bool.false_ne_true
  | byt i =>
    obtain ⟨t, rfl⟩ := rx
    cases y with
    | byt j => obtain ⟨t', rfl⟩ := ry; exact PySem.W.eq_bytes (fin_bl I q dec_byt)
    | _ => exact absurd (show false = true from hs) Bool.false_ne_true
  | _ => cases y <;> exact absurd (show false = true from hs) Bool.false_ne_true
theorem op_ne : OpR X (compareOp .NotEq) rNe := by
  intro pins s σ H x y v u Q I rx ry h
  obtain ⟨hs, q⟩ := h
  cases x with
  | non =>
    cases rx
    cases y with
    | non => cases ry; exact PySem.EqNone.ne_none_none (fin_bl I q (by simp))
    | bl j => cases ry; exact PySem.EqNone.ne_none_bool (fin_bl I q (by simp))
    | int j => obtain ⟨t', rfl⟩ := ry; exact PySem.EqNone.ne_none_int (fin_bl I q (by simp))
    | str j => obtain ⟨t', rfl⟩ := ry; exact PySem.EqNone.ne_none_str (fin_bl I q (by simp))
    | _ => exact absurd (show false = true from hs) Bool.false_ne_true
  | bl i =>
    cases rx
    cases y with
    | non => cases ry; exact PySem.EqNone.ne_bool_none (fin_bl I q (by simp))
    | bl j => cases ry; exact ne_bool (fin_bl I q (congrArg not dec_bl))
    | str j => obtain ⟨t', rfl⟩ := ry; exact PySem.EqMixed.ne_bool_str (fin_bl I q (by simp))
    | _ => exact absurd (show false = true from hs) Bool.false_ne_true
  | int i =>
    obtain ⟨t, rfl⟩ := rx
    cases y with
    | non => cases ry; exact PySem.EqNone.ne_int_none (fin_bl I q (by simp))
    | int j => obtain ⟨t', rfl⟩ := ry; exact ne_int (fin_bl I q (congrArg not dec_int))
    | str j => obtain ⟨t', rfl⟩ := ry; exact PySem.EqMixed.ne_int_str (fin_bl I q (by simp))
    | _ => exact absurd (show false = true from hs) Bool.false_ne_true
  | str i =>
    obtain ⟨t, rfl⟩ := rx
    cases y with
    | non => cases ry; exact PySem.EqNone.ne_str_none (fin_bl I q (by simp))
    | bl j => cases ry; exact PySem.EqMixed.ne_str_bool (fin_bl I q (by simp))
    | int j => obtain ⟨t', rfl⟩ := ry; exact PySem.EqMixed.ne_str_int (fin_bl I q (by simp))
    | str j => obtain ⟨t', rfl⟩ := ry; exact ne_str (fin_bl I q (congrArg not dec_str))
    | _ => exact absurd (show false = true from hs) Bool.false_ne_true
  | byt i =>
    obtain ⟨t, rfl⟩ := rx
    cases y with
    | byt j => obtain ⟨t', rfl⟩ := ry; exact PySem.W.ne_bytes (fin_bl I q (congrArg not dec_byt))
    | _ => exact absurd (show false = true from hs) Bool.false_ne_true
  | _ => cases y <;> exact absurd (show false = true from hs) Bool.false_ne_true
theorem op_lt : OpR X (compareOp .Lt) (rI0 fun i j => .bl (decide (i < j))) := opB0 fun _ _ _ _ _ _ _ q => lt_int q
theorem op_gt : OpR X (compareOp .Gt) (rI0 fun i j => .bl (decide (j < i))) := opB0 fun _ _ _ _ _ _ _ q => gt_int q
theorem OpR.or {f : Value → Value → Sem Value} {r r' : R2} (h : OpR X f r) (h' : OpR X f r') : OpR X f (fun x y H Q => r x y H Q ∨ r' x y H Q) := by
  intro pins s σ H x y v u Q I rx ry q
  rcases q with q | q
  · exact h pins s σ H x y v u Q I rx ry q
  · exact h' pins s σ H x y v u Q I rx ry q
theorem nomark (b : Expr) {op : CmpOp} (h : op ≠ .In := by decide) (h2 : op ≠ .NotIn := by decide) : behindInMarks op b = false := by
  have e1 : (op == CmpOp.In) = false := by cases op <;> first | rfl | exact absurd rfl h
  have e2 : (op == CmpOp.NotIn) = false := by cases op <;> first | rfl | exact absurd rfl h2
  cases b <;> simp [behindInMarks, e1, e2]
theorem pe_cmpR {op : CmpOp} {r : R2} (ho : OpR X (compareOp op) r) (ha : PE X a ta) (hb : PE X b tb) (hm : behindInMarks op b = false) : PE X (.Compare a [op] [b] pos) (tOp r ta tb) := by
  intro pins s σ H Q I h
  exact wpAny_Compare1 (binT ha hb I h fun v u s2 x y H2 I2 rx ry q => ho pins s2 σ H2 x y v u Q I2 rx ry q) hm
noncomputable def tTest (t : TE) : TT := fun σ H Q => t σ H fun x H' => ∃ k, x = .bl k ∧ Q k H'
theorem pt_cmpR {op : CmpOp} {r : R2} (ho : OpR X (compareOp op) r) (ha : PE X a ta) (hb : PE X b tb) (hm : behindInMarks op b = false) : PT X (.Compare a [op] [b] pos) (tTest (tOp r ta tb)) := by
  intro pins s σ H Q I h
  refine wpAny_isTrue_Compare1 (thn (ha pins s σ H _ I h) fun v s1 ⟨x, H1, I1, r1, q1⟩ => thn (hb pins s1 σ H1 _ I1 q1) fun u s2 ⟨y, H2, I2, r2, q2⟩ =>
    thn (ho pins s2 σ H2 x y v u _ I2 r1 r2 q2) fun c s3 ⟨z, H3, I3, r3, k, e, q3⟩ => ?_) hm
  subst e
  cases r3
  exact wpAny_truthy_bool ⟨H3, I3, q3⟩
theorem line63 : (sizeLine : Nat) < 2 ^ 63 := by rw [sizeLine_eq]; decide
theorem op_add_str : OpR X (binaryOp .Add) (fun x y H Q => ∃ i j, x = .str i ∧ y = .str j ∧ i.length + j.length ≤ sizeLine ∧ Q (.str (i ++ j)) H) := by
  intro pins s σ H x y v u Q I rx ry h
  obtain ⟨i, j, rfl, rfl, hz, q⟩ := h
  obtain ⟨t, rfl⟩ := rx
  obtain ⟨t', rfl⟩ := ry
  exact add_str (fun t' tk => ⟨.str (i ++ j), H, I.tok _, ⟨_, rfl⟩, q⟩) hz
theorem vals1 {x : V} {us : List Value} (r : Vals [x] us) : ∃ u, us = [u] ∧ RelV x u := by
  cases r with
  | cons r1 r2 => cases r2; exact ⟨_, rfl, r1⟩
theorem vals2 {x y : V} {us : List Value} (r : Vals [x, y] us) : ∃ u w', us = [u, w'] ∧ RelV x u ∧ RelV y w' := by
  cases r with
  | cons r1 r2 =>
    cases r2 with
    | cons r3 r4 => cases r4; exact ⟨_, _, rfl, r1, r3⟩
theorem call_int1 : CallR X (.type "int") (fun xs H Q => (∃ i, xs = [.int i] ∧ Q (.int i) H) ∨ ∃ k, xs = [.bl k] ∧ Q (.int (if k then 1 else 0)) H) := by
  intro pins s σ H xs us Q I r h
  rcases h with ⟨i, rfl, q⟩ | ⟨k, rfl, q⟩
  · obtain ⟨u, rfl, t, rfl⟩ := vals1 r
    exact call_int_int ⟨.int i, H, I, ⟨_, rfl⟩, q⟩
  · obtain ⟨u, rfl, r1⟩ := vals1 r
    cases r1
    exact call_int_bool ⟨.int (if k then 1 else 0), H, I.tok _, ⟨_, rfl⟩, q⟩
end
end L2
namespace L2
open PySem PySem.Spec PyProof.Rows
structure ObjM (h : Heap) (x dx C : Addr) (mA : Str → Option Value) : Prop where
  obj : h.get? x = some (PySem.W.instObj C dx)
  ns : h.Ns1 dx mA
  ne : dx ≠ x
theorem lookIn_ns {h : Heap} {dx : Addr} {mA : Str → Option Value} (n : h.Ns1 dx mA) : ∃ od, h.get? dx = some od ∧ ∀ name, PySem.W.lookIn name od = some (mA name) := by
  obtain ⟨o, es, ep, ho, hd, hk, _, hm⟩ := n
  refine ⟨o, ho, fun name => ?_⟩
  have e := hm name
  unfold nsFind findBy at e
  rw [← Array.find?_toList] at e
  unfold PySem.W.lookIn
  rw [hd]
  dsimp only
  split
  · rename_i y q
    rw [q] at e
    exact congrArg some e
  · rename_i q
    rw [q] at e
    have a : es.toList.any (·.refKey) = false := by
      rw [List.any_eq_false]
      intro y hy
      obtain ⟨z, t, hkey⟩ := hk y (Array.mem_toList_iff.mp hy)
      simp [DictEntry.refKey, hkey]
    have a' : ¬ es.toList.any (·.refKey) = true := by rw [a]; exact Bool.false_ne_true
    rw [if_neg a']
    exact congrArg some e
theorem ObjM.look {h : Heap} {x dx C : Addr} {mA : Str → Option Value} (I : ObjM h x dx C mA) : ∃ od, PySem.W.InstAt h x (PySem.W.instObj C dx) C (some od) ∧ ∀ name, PySem.W.lookIn name od = some (mA name) :=
  let ⟨od, ho, hl⟩ := lookIn_ns I.ns
  ⟨od, ⟨I.obj, rfl, rfl, ho⟩, hl⟩
section
variable {prog : Program} {w : World} {A : Around} {E : Value → Shared → Prop} {s : Shared} {K : PySem.W.Frag} {x dx C f : Addr} {mA : Str → Option Value} {name : Str} {v : Value}
theorem get_meth {pl : Sem Bool} {Q : Value × List Value → Shared → Prop} (X : K.In s.heap) (I : ObjM s.heap x dx C mA) (hg : PySem.W.plainGet K C name = true)
    (hf : PySem.W.findIn K (.ref C) name = some (some (.ref f))) (ht : PySem.W.isFn K (.ref f) = true) (hv : mA name = none) (h : Q (.ref f, [.ref x]) s) :
    wpAny (model prog w) A (getMethod (.ref x) name pl) Q E s := by
  obtain ⟨od, J, hl⟩ := I.look
  exact PySem.W.method_fn X J (PySem.W.plainGet_of hg).1 (PySem.W.plainGet_of hg).2 hf (beq_iff_eq.mp ht) (by show (PySem.W.lookIn name od).map (·.isSome) = some false; rw [hl, hv]; rfl) h
theorem set_map {ns : List Str} {Q : Unit → Shared → Prop} (X : K.In s.heap) (I : ObjM s.heap x dx C mA)
    (hs : PySem.W.findIn K (.ref C) "__setattr__" = some (some (.builtin "object.__setattr__"))) (hp : PySem.W.plainOver K C = true) (ht : PySem.W.takerIn K C name = some none) (hh : PySem.W.hasDictIn K C = true)
    (hw : PySem.Within mA ns) (hsz : ns.length ≤ sizeLine)
    (h : ∀ h', ObjM h' x dx C (fun y => if y = name then some v else mA y) → Heap.SameBut dx s.heap h' → Q () { s with heap := h', toks := s.toks + 2 }) :
    wpAny (model prog w) A (setAttr (.ref x) name v) Q E s := by
  obtain ⟨od, J, hl⟩ := I.look
  refine PySem.W.set_plain X J hs (PySem.W.osa_open (s := { s with toks := s.toks + 1 }) (r := none) X J hp ht fun b => ?_)
  obtain ⟨cd, hc, hd'⟩ := PySem.W.any_some hh
  have hx : s.heap.get? x = some ⟨.ref C, some dx, .plain, #[]⟩ := I.obj
  refine wpAny_bind (wpAny_pure (wpAny_bind (wpAny_bind (wpAny_loadPart hx (wpAny_bind (PySem.W.Looks.here (s := { s with toks := s.toks + 1 }) (PySem.W.looks_clsIn X hc) ?_))))))
  rw [hd']
  refine wpAny_pure (a := some dx) (wpAny_bind (wpAny_pure (wpAny_bind ?_)))
  refine wpAny_nsSet1 (s := { s with toks := s.toks + 1 }) I.ns fun h' hn2 hs2 => ?_
  obtain ⟨oD, esD, epD, hoD, hdD, hcD⟩ := hn2.count (PySem.Within.cons name v hw)
  refine wpAny_bind (wpAny_lookBehind hoD (by rw [hdD]; exact pastItsLine_dict (Nat.le_trans hcD (by rw [List.length_cons]; omega))) ?_)
  exact wpAny_pure (h _ ⟨(hs2.2 _ (Ne.symm I.ne)).trans I.obj, hn2, I.ne⟩ hs2)
theorem make_map {R : Result → Shared → Prop} {vs : List Value} {kw : List (Str × Value)} (X : K.In s.heap) (hm : PySem.W.makesIn K C = true)
    (hi : PySem.W.findIn K (.ref C) "__init__" = some (some (.ref f))) (hf : PySem.W.typeIn K (.ref f) = some (.type "function"))
    (h : codeAny (model prog w) (A.under (.builtin "type.__call__" ⟨.ref C :: vs, kw⟩)) (.call (.ref f) ⟨.ref (s.heap.objs.size + 1) :: vs, kw⟩) (PySem.W.InitBack (s.heap.objs.size + 1) R)
      { s with heap := (s.heap.push PySem.W.emptyDict).push (PySem.W.instObj C s.heap.objs.size) }) :
    codeAny (model prog w) A (.call (.ref C) ⟨vs, kw⟩) R s := by
  obtain ⟨hh, g, d, t, os⟩ := s
  exact PySem.W.make_core (PySem.W.makes_of X hm) (PySem.W.looks_findIn X hi) (fun self => PySem.W.bind_fn X self hf) (.inl rfl) h
end
noncomputable def putF (f : Str) (v : V) : List (Str × V) → List (Str × V)
  | [] => [(f, v)]
  | (g, x) :: r => if g = f then (g, v) :: r else (g, x) :: putF f v r
theorem lookup_putF (f g : Str) (v : V) : ∀ fs : List (Str × V), (putF f v fs).lookup g = if g = f then some v else fs.lookup g
  | [] => by
    show List.lookup g [(f, v)] = _
    by_cases h : g = f
    · have hb : (g == f) = true := beq_iff_eq.mpr h
      simp only [List.lookup, hb, if_pos h]
    · have hb : (g == f) = false := beq_eq_false_iff_ne.mpr h
      simp only [List.lookup, hb, if_neg h]
  | (k, x) :: r => by
    have ih := lookup_putF f g v r
    rw [show putF f v ((k, x) :: r) = (if k = f then (k, v) :: r else (k, x) :: putF f v r) from rfl]
    by_cases hk : k = f
    · rw [if_pos hk]
      by_cases h : g = k
      · have hb : (g == k) = true := beq_iff_eq.mpr h
        simp only [List.lookup, hb, if_pos (h.trans hk)]
      · have hb : (g == k) = false := beq_eq_false_iff_ne.mpr h
        simp only [List.lookup, hb, if_neg (fun e : g = f => h (e.trans hk.symm))]
    · rw [if_neg hk]
      by_cases h : g = k
      · have hb : (g == k) = true := beq_iff_eq.mpr h
        simp only [List.lookup, hb, if_neg (fun e : g = f => hk (h.symm.trans e))]
      · have hb : (g == k) = false := beq_eq_false_iff_ne.mpr h
        simp only [List.lookup, hb]
        exact ih
theorem keys_putF (f : Str) (v : V) : ∀ fs : List (Str × V), f ∈ (putF f v fs).map (·.1) ∧ ∀ g, g ∈ fs.map (·.1) → g ∈ (putF f v fs).map (·.1)
  | [] => ⟨by simp [putF], fun g h => by simp at h⟩
  | (k, x) :: r => by
    obtain ⟨i1, i2⟩ := keys_putF f v r
    rw [show putF f v ((k, x) :: r) = (if k = f then (k, v) :: r else (k, x) :: putF f v r) from rfl]
    by_cases hk : k = f
    · rw [if_pos hk]
      subst hk
      exact ⟨by simp, fun g h => by simpa using h⟩
    · rw [if_neg hk]
      refine ⟨?_, fun g h => ?_⟩
      · rw [List.map_cons]
        exact List.mem_cons_of_mem _ i1
      · rw [List.map_cons] at h ⊢
        rcases List.mem_cons.mp h with e | e
        · exact List.mem_cons.mpr (.inl e)
        · exact List.mem_cons_of_mem _ (i2 g e)
theorem length_putF (f : Str) (v : V) : ∀ fs : List (Str × V), (putF f v fs).length ≤ fs.length + 1
  | [] => by simp [putF]
  | (k, x) :: r => by
    have ih := length_putF f v r
    rw [show putF f v ((k, x) :: r) = (if k = f then (k, v) :: r else (k, x) :: putF f v r) from rfl]
    by_cases hk : k = f
    · rw [if_pos hk, List.length_cons, List.length_cons]; omega
    · rw [if_neg hk, List.length_cons, List.length_cons]; omega
theorem RelO.none_of {o : Option Value} (r : RelO none o) : o = none := by
  cases o with
  | none => rfl
  | some u => exact (show False from r).elim
section
variable {P : Program} {w : World} {H H' : Hp} {h h' : Heap} {a C dx : Addr} {fs fs' : List (Str × V)}
theorem ins_get (hok : HOk P w H h) (e : H a = some (.ins C dx fs)) : ∃ mA, ObjM h a dx C mA ∧ (∀ f, RelO (fs.lookup f) (mA f)) ∧ PySem.Within mA (fs.map (·.1)) ∧ fs.length ≤ 1000 ∧ H dx = some (.own a) := by
  obtain ⟨d, z, ne, ob, mA, n, r, q⟩ := (show ObjOk P w H h a (.ins C dx fs) from hok a _ e)
  exact ⟨mA, ⟨ob, n, ne⟩, r, q, z, d⟩
end
structure Cls (K : PySem.W.Frag) (C : Addr) : Prop where
  pg : PySem.W.plainGet K C Str.empty = true
  hd : PySem.W.hasDictIn K C = true
  po : PySem.W.plainOver K C = true
  sa : PySem.W.findIn K (.ref C) "__setattr__" = some (some (.builtin "object.__setattr__"))
theorem Cls.get {K : PySem.W.Frag} {C : Addr} (c : Cls K C) (f : Str) : PySem.W.plainGet K C f = true := c.pg
noncomputable def NoAttr (K : PySem.W.Frag) (C : Addr) (f : Str) : Prop := PySem.W.findIn K (.ref C) f = some none
theorem NoAttr.taker {K : PySem.W.Frag} {C : Addr} {f : Str} (n : NoAttr K C f) : PySem.W.takerIn K C f = some none := by
  unfold PySem.W.takerIn
  rw [show PySem.W.findIn K (.ref C) f = some none from n]
  rfl
structure Meth (K : PySem.W.Frag) (C : Addr) (m : Str) (f : Addr) : Prop where
  at_ : PySem.W.findIn K (.ref C) m = some (some (.ref f))
  fn : PySem.W.isFn K (.ref f) = true
  kp : PySem.W.keepIn K (.ref f) = true
section
variable {X : Cx} {pins : List (Addr × Obj)} {σ : St} {H : Hp} {s : Shared} {a C dx : Addr} {fs : List (Str × V)} {f : Str} {v : V} {A : Around} {E : Value → Shared → Prop}
theorem getmeth_ok {m : Str} {g : Addr} {pl : Sem Bool} {Q : Value × List Value → Shared → Prop} (I : Inv X pins σ H s) (e : H a = some (.ins C dx fs)) (c : Cls X.K C) (k : Meth X.K C m g) (l : fs.lookup m = none)
    (h : Q (.ref g, [.ref a]) s) : wpAny (model X.prog X.w) A (getMethod (.ref a) m pl) Q E s := by
  obtain ⟨mA, O, r, _, _, _⟩ := ins_get I.hok e
  have hn : mA m = none := RelO.none_of (by rw [← l]; exact r m)
  exact get_meth I.kIn O (c.get m) k.at_ k.fn hn h
theorem setattr_ok {y : V} {u : Value} {Q : Unit → Shared → Prop} (I : Inv X pins σ H s) (e : H a = some (.ins C dx fs)) (c : Cls X.K C) (n : NoAttr X.K C f) (hl : fs.length < 1000) (ry : RelV y u)
    (h : ∀ s', Inv X pins σ (upd H a (.ins C dx (putF f y fs))) s' → Q () s') : wpAny (model X.prog X.w) A (setAttr (.ref a) f u) Q E s := by
  obtain ⟨mA, O, r, wi, _, ho⟩ := ins_get I.hok e
  have hz : (fs.map (·.1)).length ≤ sizeLine := by rw [List.length_map, sizeLine_eq]; omega
  refine set_map I.kIn O c.sa c.po n.taker c.hd wi hz fun h' O' sb => h _ ?_
  have hd : ∃ o, h'.get? dx = some o := let ⟨o, _, _, e', _⟩ := O'.ns; ⟨o, e'⟩
  refine I.write (x := a) (e := dx) (by rw [e]; exact True.intro) (.inr ho) (fun b q hb z => (sb.2 b hb).trans z) hd ?_
  refine ⟨by rw [upd_ne O.ne]; exact ho, ?_, O.ne, O'.obj, _, O'.ns, fun g => ?_, fun g hg => ?_⟩
  · have := length_putF f y fs; omega
  · show RelO ((putF f y fs).lookup g) (if g = f then some u else mA g)
    rw [lookup_putF]
    by_cases q : g = f
    · rw [if_pos q, if_pos q]; exact ry
    · rw [if_neg q, if_neg q]; exact r g
  · by_cases q : g = f
    · rw [q]; exact (keys_putF f y fs).1
    · refine (keys_putF f y fs).2 g (wi g fun z => hg ?_)
      show (if g = f then some u else mA g) = none
      rw [if_neg q]; exact z
theorem Inv.made (I : Inv X pins σ H s) : Inv X pins σ (upd (upd H s.heap.objs.size (.own (s.heap.objs.size + 1))) (s.heap.objs.size + 1) (.ins C s.heap.objs.size []))
    { s with heap := (s.heap.push PySem.W.emptyDict).push (PySem.W.instObj C s.heap.objs.size) } := by
  have e1 : (s.heap.push PySem.W.emptyDict).get? s.heap.objs.size = some PySem.W.emptyDict := Heap.get?_push_size s.heap rfl
  have e2 : ((s.heap.push PySem.W.emptyDict).push (PySem.W.instObj C s.heap.objs.size)).get? (s.heap.objs.size + 1) = some (PySem.W.instObj C s.heap.objs.size) := by
    have := Heap.get?_push_size (s.heap.push PySem.W.emptyDict) (o := PySem.W.instObj C s.heap.objs.size) rfl
    rwa [Heap.size_push] at this
  have e3 : (s.heap.push PySem.W.emptyDict).Ns s.heap.objs.size (fun _ => none) := ⟨PySem.W.emptyDict, #[], _, e1, rfl, (fun e he => absurd he (by simp)), fun _ => rfl⟩
  have I1 := I.laid (a := s.heap.objs.size) (o := .own (s.heap.objs.size + 1)) (h' := s.heap.push PySem.W.emptyDict) (t' := s.toks) (fun b u q => Heap.get?_push_of_some _ q) (Nat.le_refl _) ⟨_, e1⟩
  refine I1.laid (a := s.heap.objs.size + 1) (o := .ins C s.heap.objs.size []) (t' := s.toks) (fun b u q => Heap.get?_push_of_some _ q) (Nat.le_of_eq (Heap.size_push _ _)) ?_
  have ne : s.heap.objs.size ≠ s.heap.objs.size + 1 := Nat.ne_of_lt (Nat.lt_succ_self _)
  refine ⟨by rw [upd_ne ne, upd_same], Nat.zero_le _, ne, e2, fun _ => none, (Heap.Ns1.of_empty e3).at fun o q => Heap.get?_push_of_some _ q, fun _ => True.intro, fun y hy => absurd rfl hy⟩
end
noncomputable def sFld (K : PySem.W.Frag) (ta tv : TE) (f : Str) : TS := fun D σ H => tv σ H fun y H1 => ta σ H1 fun x H2 => ∃ a C dx fs, x = .ref a ∧ H2 a = some (.ins C dx fs) ∧ Cls K C ∧ NoAttr K C f ∧ fs.length < 1000 ∧
  D.nx σ (upd H2 a (.ins C dx (putF f y fs)))
section
variable {X : Cx} {o e value : Expr} {f : Str} {pos pos' tpos : Pos} {ta tv : TE}
theorem ps_fld (ha : PE X o ta) (hv : PE X value tv) (hs : swapsWith value (some (.Attribute o f pos')) pos.line X.env = pure false) : PS X (.Assign [.Attribute o f pos'] value pos) (sFld X.K ta tv f) := by
  intro pins s σ H D I h
  refine plainObj_wpAny_Assign_Attribute (thn (hv pins s σ H _ I h) fun u s1 ⟨y, H1, I1, ry, q⟩ => thn (ha pins s1 σ H1 _ I1 q) fun ov s2 ⟨x, H2, I2, rx, a, C, dx, fs, ex, ea, c, n, l, q2⟩ => ?_) hs
  subst ex
  obtain rfl : ov = Value.ref a := rx
  exact setattr_ok I2 ea c n l ry fun s3 I3 => ⟨σ, _, I3, q2⟩
theorem methcall_of {pl : Sem Bool} {m : Str} {apos : Pos} {args : List Expr} {pins : List (Addr × Obj)} {s : Shared} {σ : St} {H : Hp} {Q : Value → Shared → Prop} {te : TE} (he : PE X e te) (I : Inv X pins σ H s)
    (h : te σ H fun x H1 => ∃ a C dx fs g, x = .ref a ∧ H1 a = some (.ins C dx fs) ∧ Cls X.K C ∧ Meth X.K C m g ∧ fs.lookup m = none ∧
      ∀ s1, Inv X pins σ H1 s1 → wpAny (model X.prog X.w) X.A (callWith pos (.ref g) [.ref a] (backTo pos (starEach args X.env)) (backToKw pos (keywordEach [] X.env))) Q X.xe s1)
    (ht : eval (.Call (.Attribute e m apos) args [] pos) X.env = (do
      let ov ← eval e X.env
      standAt apos.atName
      let (f, first) ← holding [ov] (getMethod ov m pl)
      callWith pos f first (backTo pos (starEach args X.env)) (backToKw pos (keywordEach [] X.env)))) :
    wpAny (model X.prog X.w) X.A (eval (.Call (.Attribute e m apos) args [] pos) X.env) Q X.xe s := by
  refine PySem.W.methodCall_KW (pl := pl) (thn (he pins s σ H _ I h) fun u s1 ⟨x, H1, I1, rx, a, C, dx, fs, g, ex, ea, c, k, l, q⟩ => ?_) ht
  subst ex
  obtain rfl : u = Value.ref a := rx
  exact getmeth_ok I1 ea c k l (q s1 I1)
end
section
variable {X : Cx} {pins : List (Addr × Obj)} {σ : St} {H : Hp} {s : Shared} {A : Around} {E : Value → Shared → Prop} {Q : Value → Shared → Prop} {c : Value} {b : Bool}
inductive TyOf (K : PySem.W.Frag) (H : Hp) : V → Value → Prop where
  | non : TyOf K H .non (.type "NoneType")
  | bl (x : Bool) : TyOf K H (.bl x) (.type "bool")
  | int (i : Int) : TyOf K H (.int i) (.type "int")
  | str (x : Str) : TyOf K H (.str x) (.type "str")
  | flt (x : UInt64) : TyOf K H (.flt x) (.type "float")
  | lst {a : Addr} {xs : List V} (e : H a = some (.lst xs)) : TyOf K H (.ref a) (.type "list")
  | frz {a : Addr} {o : Obj} {xs : List V} (e : H a = some (.frz o (.lst xs))) : TyOf K H (.ref a) (.type "list")
  | tup {a : Addr} {xs : List V} (e : H a = some (.tup xs)) : TyOf K H (.ref a) (.type "tuple")
  | dK {a : Addr} {kvs : List (Key × V)} (e : H a = some (.dK kvs)) : TyOf K H (.ref a) (.type "dict")
  | dT {a : Addr} {kvs : List (List Key × V)} (e : H a = some (.dT kvs)) : TyOf K H (.ref a) (.type "dict")
  | ins {a C dx : Addr} {fs : List (Str × V)} (e : H a = some (.ins C dx fs)) (cl : Cls K C) (ha : PySem.W.findIn K (.ref C) "__class__" = some (some (.builtin "object.__class__")))
      (hn : PySem.W.specialIn K (.builtin "object.__class__") "__get__" = some (some (.builtin "getset_descriptor.__get__"))) (htk : PySem.W.takesIn K (.builtin "object.__class__") = some true)
      (hm : PySem.W.mroIn K C (.type "object") = some true) : TyOf K H (.ref a) (.ref C)
theorem isinst_ok {x : V} {u t : Value} (I : Inv X pins σ H s) (rx : RelV x u) (ty : TyOf X.K H x t) (e : PySem.W.kitOne X.K t c = some b) (h : ∀ tk, Q (.bool b) { s with toks := tk }) :
    wpAny (model X.prog X.w) A (call (.builtin "isinstance") [u, c]) Q E s := by
  cases ty with
  | non => cases (show u = Value.none from rx); exact PySem.W.kia_one PySem.W.kitx_none I.kIn True.intro e (fun z => nomatch z) h
  | bl y => cases (show u = Value.bool y from rx); exact PySem.W.kia_one PySem.W.kitx_bool I.kIn True.intro e (fun z => nomatch z) h
  | int i => obtain ⟨t, q⟩ := (show ∃ t, u = Value.int i t from rx); cases q; exact PySem.W.kia_one PySem.W.kitx_int I.kIn True.intro e (fun z => nomatch z) h
  | str y => obtain ⟨t, q⟩ := (show ∃ t, u = Value.str y t from rx); cases q; exact PySem.W.kia_one PySem.W.kitx_str I.kIn True.intro e (fun z => nomatch z) h
  | flt y => obtain ⟨t, q⟩ := (show ∃ t, u = Value.float y t from rx); cases q; exact PySem.W.kia_one PySem.W.kitx_float I.kIn True.intro e (fun z => nomatch z) h
  | @lst a xs ea =>
    cases (show u = Value.ref a from rx)
    obtain ⟨_, _, n, _, h1⟩ := (show ObjOk X.prog X.w H s.heap a (.lst xs) from I.hok a _ ea)
    exact PySem.W.kia_one PySem.W.kitx_list I.kIn ⟨_, h1, rfl⟩ e (fun z => nomatch z) h
  | @frz a ob xs ea =>
    cases (show u = Value.ref a from rx)
    obtain ⟨_, _, _, n, _, h1⟩ := (show ObjOk X.prog X.w H s.heap a (.frz ob (.lst xs)) from I.hok a _ ea)
    exact PySem.W.kia_one PySem.W.kitx_list I.kIn ⟨_, h1, rfl⟩ e (fun z => nomatch z) h
  | @tup a xs ea =>
    cases (show u = Value.ref a from rx)
    obtain ⟨_, _, _, p⟩ := (show ObjOk X.prog X.w H s.heap a (.tup xs) from I.hok a _ ea)
    obtain ⟨o, h1, h2, _⟩ := p
    exact PySem.W.kia_one PySem.W.kitx_tuple I.kIn ⟨o, h1, h2⟩ e (fun z => nomatch z) h
  | @dK a kvs ea =>
    cases (show u = Value.ref a from rx)
    obtain ⟨_, _, vs, _, p⟩ := (show ObjOk X.prog X.w H s.heap a (.dK kvs) from I.hok a _ ea)
    obtain ⟨o, es, ep, h1, h2, _⟩ := p
    exact PySem.W.kia_one PySem.W.kitx_dict I.kIn ⟨o, h1, h2.1⟩ e (fun z => nomatch z) h
  | @dT a kvs ea =>
    cases (show u = Value.ref a from rx)
    obtain ⟨_, _, xs, _, o, es, ep, h1, h2, _⟩ := (show ObjOk X.prog X.w H s.heap a (.dT kvs) from I.hok a _ ea)
    exact PySem.W.kia_one PySem.W.kitx_dict I.kIn ⟨o, h1, h2.1⟩ e (fun z => nomatch z) h
  | @ins a C dx fs ea cl ha hn htk hm =>
    cases (show u = Value.ref a from rx)
    obtain ⟨mA, O, _⟩ := ins_get I.hok ea
    obtain ⟨od, J, _⟩ := O.look
    exact PySem.W.kia_one (PySem.W.kitx_own (cl.get _) cl.hd ha hn htk hm) I.kIn J e (fun z => nomatch z) h
end
end L2
namespace L2
open PySem PySem.Spec PyProof.Rows
structure Room (k : Nat) (A : Around) : Prop where
  hd : A.handled = none
  dp : A.depth + 3 * k + 5 < recursionLimit
  un : A.units + 16 * k + 200 < cLine
theorem Room.mono {j k : Nat} {A : Around} (r : Room k A) (h : j ≤ k) : Room j A := ⟨r.hd, by have := r.dp; omega, by have := r.un; omega⟩
theorem Room.deeper {k : Nat} {A : Around} (r : Room (k + 1) A) (env : Env) : Room k (A.deeper env) :=
  ⟨r.hd, by have := r.dp; show A.depth + 1 + 3 * k + 5 < _; omega, by have := r.un; show A.units + 3 + 16 * k + 200 < _; omega⟩
theorem make_depth {A : Around} {C : Addr} {us : List Value} {kw : List (Str × Value)} : (A.under (.builtin "type.__call__" ⟨.ref C :: us, kw⟩)).depth = A.depth + 1 := by
  first | rfl | simp [Around.under, Code.weight, Code.isCreation, Code.isGuard, Code.isCaller, Code.frames, Code.isFrame, guardIds]
theorem make_units {A : Around} {C : Addr} {us : List Value} {kw : List (Str × Value)} : (A.under (.builtin "type.__call__" ⟨.ref C :: us, kw⟩)).units = A.units + 1 := by
  first | rfl | simp [Around.under, Code.cUnits, Code.frames, Code.isFrame]
theorem Room.make {k : Nat} {A : Around} (r : Room (k + 1) A) (C : Addr) (us : List Value) (kw : List (Str × Value)) : Room k (A.under (.builtin "type.__call__" ⟨.ref C :: us, kw⟩)) :=
  ⟨r.hd, by have := r.dp; rw [make_depth]; omega, by have := r.un; rw [make_units]; omega⟩
theorem Room.depth {k : Nat} {A : Around} (r : Room k A) : A.depth < recursionLimit := by have := r.dp; omega
theorem Room.units {k : Nat} {A : Around} (r : Room k A) : A.units + 64 < cLine := by have := r.un; omega
noncomputable def tNil : TA := fun _ H Q => Q [] H
noncomputable def tCons (ta : TE) (tr : TA) : TA := fun σ H Q => ta σ H fun x H1 => tr σ H1 fun xs H2 => Q (x :: xs) H2
section
variable {X : Cx} {e : Expr} {es : List Expr} {te : TE} {t : TA} {pos : Pos}
theorem pa_nil : PA X [] tNil := fun _ _ _ _ H Q I h => Calls.spliced_nil ⟨[], H, I, .nil, h⟩
theorem pa_cons (ha : PE X e te) (hr : PA X es t) (hs : starEach (e :: es) X.env = (false, eval e X.env) :: starEach es X.env := by rfl) : PA X (e :: es) (tCons te t) := by
  intro pos pins s σ H Q I h
  rw [hs]
  show wpAny _ _ (spliced ((false, eval e X.env) :: backTo pos (starEach es X.env))) _ _ s
  refine Calls.spliced_cons (thn (ha pins s σ H _ I h) fun u s1 ⟨x, H1, I1, r1, q1⟩ => ?_)
  exact thn (hr pos pins s1 σ H1 _ I1 q1) fun us s2 ⟨xs, H2, I2, r2, q2⟩ => ⟨x :: xs, H2, I2, .cons r1 r2, q2⟩
noncomputable def tTup (t : TA) : TE := fun σ H Q => t σ H fun xs H1 => xs.length ≤ sizeLine ∧ ∀ p, H1 p = none → Q (.ref p) (upd H1 p (.tup xs))
noncomputable def tLst (t : TA) : TE := fun σ H Q => t σ H fun xs H1 => xs.length ≤ sizeLine ∧ ∀ p, H1 p = none → Q (.ref p) (upd H1 p (.lst xs))
theorem pe_tup {x1} (h : PA X es t) : PE X (.Tuple es x1 pos) (tTup t) := by
  intro pins s σ H Q I hq
  refine wpAny_Tuple_spliced (thn (h pos pins s σ H _ I hq) fun us s1 ⟨xs, H1, I1, r, z, q⟩ => ⟨by rw [← r.length]; exact z, ?_⟩)
  have hf : H1 s1.heap.objs.size = none := I1.hok.fresh (Nat.le_refl _)
  refine ⟨.ref s1.heap.objs.size, upd H1 s1.heap.objs.size (.tup xs), I1.laid (t' := s1.toks) (fun b u e => Heap.get?_push_of_some _ e) (Nat.le_refl _) ?_, rfl, q _ hf⟩
  exact ⟨z, us, r, ⟨_, Heap.get?_push_size _ rfl, rfl, _, rfl⟩⟩
theorem pe_lst (h : PA X es t) : PE X (.List es pos) (tLst t) := by
  intro pins s σ H Q I hq
  refine wpAny_List_spliced (thn (h pos pins s σ H _ I hq) fun us s1 ⟨xs, H1, I1, r, z, q⟩ => ⟨by rw [← r.length]; exact z, ?_⟩)
  have hf : H1 s1.heap.objs.size = none := I1.hok.fresh (Nat.le_refl _)
  refine ⟨.ref s1.heap.objs.size, upd H1 s1.heap.objs.size (.lst xs), I1.laid (t' := s1.toks) (fun b u e => Heap.get?_push_of_some _ e) (Nat.le_refl _) ?_, rfl, q _ hf⟩
  exact ⟨z, us, 0, r, Heap.get?_push_size _ rfl⟩
end
noncomputable abbrev Sp := List V → Hp → VK → XK → Prop
noncomputable abbrev CXT := List Env → Hp → Shared → XK → Value → Shared → Prop
structure Env0 (P : Program) (w : World) (K : PySem.W.Frag) (mg : Str → Option Value) (base : Heap) (A : Around) (outer : List Env) (s : Shared) (H : Hp) : Prop where
  frames : A.frames = some outer
  mod : Mod K mg base
  bs : ∀ b o, base.get? b = some o → s.heap.get? b = some o ∧ H b = none
  bsz : base.objs.size ≤ s.heap.objs.size
  funs : s.heap.FunFrames base outer
  frf : ∀ b ∈ frs outer, H b = none
  hok : HOk P w H s.heap
  bare : AllBare s.gens
noncomputable def CE (outer : List Env) (P : Program) (w : World) (H : Hp) (s : Shared) (Q : VK) (u : Value) (s' : Shared) : Prop :=
  ∃ v H', s'.os = s.os ∧ AllBare s'.gens ∧ Un (frs outer) [] H H' s.heap s'.heap ∧ HOk P w H' s'.heap ∧ RelV v u ∧ Q v H'
noncomputable def CR (CX : CXT) (outer : List Env) (P : Program) (w : World) (H : Hp) (s : Shared) (Q : VK) (E : XK) (r : Result) (s' : Shared) : Prop :=
  match r with
  | .ok (.ret u) => CE outer P w H s Q u s'
  | .ok _ => False
  | .error e => CX outer H s E e s'
structure FnOk (P : Program) (w : World) (K : PySem.W.Frag) (mg : Str → Option Value) (base : Heap) (CX : CXT) (k : Nat) (f : Addr) (fd : FuncData) (ps : List Str) (sp : Sp) : Prop where
  len : ∀ vs H Q E, sp vs H Q E → vs.length = ps.length
  run : ∀ (A : Around) (outer : List Env) (s : Shared) (H : Hp) (args : Args) (us : List Value) (vs : List V) (Q : VK) (E : XK), Room k A → Env0 P w K mg base A outer s H → BindsTo s fd args (ps.zip us) → Vals vs us → sp vs H Q E →
    codeAny (model P w) A (.call (.ref f) args) (CR CX outer P w H s Q E) s
theorem Env0.make {P : Program} {w : World} {K : PySem.W.Frag} {mg : Str → Option Value} {base : Heap} {A : Around} {outer : List Env} {s : Shared} {H : Hp} (e : Env0 P w K mg base A outer s H) (C : Addr) (us : List Value) (kw : List (Str × Value)) :
    Env0 P w K mg base (A.under (.builtin "type.__call__" ⟨.ref C :: us, kw⟩)) outer s H := ⟨by first | exact e.frames | (simpa [Around.under, Code.envs, Code.isFrame, pushEnvs] using e.frames), e.mod, e.bs, e.bsz, e.funs, e.frf, e.hok, e.bare⟩
section
variable {X : Cx} {pins : List (Addr × Obj)} {σ : St} {H : Hp} {s s' : Shared}
theorem Inv.env0 (I : Inv X pins σ H s) : Env0 X.prog X.w X.K X.mg X.base X.A X.stack s H :=
  ⟨I.ok.frames, I.ok.mod, I.bs, Nat.le_trans I.ok.bsz I.sz, I.stack, I.stkFree, I.hok, I.bare⟩
theorem Inv.after {Q : VK} {u : Value} (I : Inv X pins σ H s) (h : CE X.stack X.prog X.w H s Q u s') : EP X pins σ Q u s' := by
  obtain ⟨v, H', os, bare, un, hok, r, q⟩ := h
  obtain ⟨hh, g, d, t, os'⟩ := s'
  obtain rfl : os' = s.os := os
  exact ⟨v, H', I.call (h' := hh) (g' := g) (d' := d) (t' := t) (ch := []) un hok bare (fun b z => absurd z (by simp)), r, q⟩
end
noncomputable def tCall (sp : Sp) (dvs : List V) (E : XK) (t : TA) : TE := fun σ H Q => t σ H fun vs H1 => sp (vs ++ dvs) H1 Q E
noncomputable def tMeth (C : Addr) (m : Str) (sp : Sp) (dvs : List V) (E : XK) (ta : TE) (t : TA) : TE := fun σ H Q => ta σ H fun x H1 => ∃ a dx fs, x = .ref a ∧ H1 a = some (.ins C dx fs) ∧ fs.lookup m = none ∧
  t σ H1 fun vs H2 => sp (x :: (vs ++ dvs)) H2 Q E
noncomputable def tMake (C : Addr) (sp : Sp) (dvs : List V) (E : XK) (t : TA) : TE := fun σ H Q => t σ H fun vs H1 => ∀ x dx, H1 x = none → H1 dx = none → dx ≠ x →
  sp (.ref x :: (vs ++ dvs)) (upd (upd H1 dx (.own x)) x (.ins C dx [])) (fun v H2 => v = .non ∧ Q (.ref x) H2) E
noncomputable def Binds (K : PySem.W.Frag) (fd : FuncData) (ps : List Str) (ds : List Value) : Prop :=
  ∀ (s : Shared) (us : List Value), K.In s.heap → (us ++ ds).length = ps.length → BindsTo s fd ⟨us, []⟩ (ps.zip (us ++ ds))
theorem Binds.all {K : PySem.W.Frag} {fd : FuncData} {ps : List Str} (h : ∀ us : List Value, us.length = ps.length → bindArgs fd ⟨us, []⟩ = pure (ps.zip us)) : Binds K fd ps [] := fun s us _ hl => by
  rw [List.append_nil] at hl ⊢
  exact .of_eq (h us hl)
noncomputable def Passes (CX : CXT) (X : Cx) (E : XK) : Prop := ∀ (pins : List (Addr × Obj)) (σ : St) (H : Hp) (s : Shared) (e : Value) (s' : Shared), Inv X pins σ H s → CX X.stack H s E e s' → X.xe e s'
section
variable {X : Cx} {CX : CXT} {k : Nat} {f C : Addr} {fd : FuncData} {ps : List Str} {sp : Sp} {dvs : List V} {ds : List Value} {E : XK} {x m : Str} {p pos apos : Pos} {e o : Expr} {es : List Expr} {ta : TE} {t : TA}
theorem run_fn {pins : List (Addr × Obj)} {σ : St} {H : Hp} {s : Shared} {Q : VK} {us : List Value} {vs : List V} (F : FnOk X.prog X.w X.K X.mg X.base CX k f fd ps sp) (hr : Room k X.A) (hb : Binds X.K fd ps ds) (hd : Vals dvs ds) (hx : Passes CX X E)
    (I : Inv X pins σ H s) (r : Vals vs us) (h : sp (vs ++ dvs) H Q E) : wpAny (model X.prog X.w) X.A (call (.ref f) us) (EP X pins σ Q) X.xe s := by
  have r2 : Vals (vs ++ dvs) (us ++ ds) := r.append hd
  have hl : (us ++ ds).length = ps.length := by rw [← r2.length]; exact F.len _ _ _ _ h
  refine wpAny_call (codeAny_mono (F.run X.A X.stack s H ⟨us, []⟩ (us ++ ds) (vs ++ dvs) Q E hr I.env0 (hb s us I.kIn hl) r2 h) fun r s' hq => ?_)
  cases r with
  | error e => exact hx pins σ H s e s' I hq
  | ok fl =>
    cases fl with
    | ret u => exact I.after hq
    | next => exact False.elim hq
    | brk => exact False.elim hq
    | cont => exact False.elim hq
theorem pe_call (F : FnOk X.prog X.w X.K X.mg X.base CX k f fd ps sp) (hr : Room k X.A) (hg : Gl X x) (hm : X.mg x = some (.ref f)) (hk : PySem.W.keepIn X.K (.ref f) = true) (hb : Binds X.K fd ps ds) (hd : Vals dvs ds) (hx : Passes CX X E)
    (ha : PA X (e :: es) t) (hdb : (x == ("__debug__" : Str)) = false := by decide) (he : starEach (e :: es) X.env = (false, eval e X.env) :: starEach es X.env := by rfl) (hpl : (backTo pos (starEach es X.env)).any (·.1) = false := by rfl) :
    PE X (.Call (.Name x p) (e :: es) [] pos) (tCall sp dvs E t) := by
  intro pins s σ H Q I h
  refine wpAny_Call_Name_kw (ld_glob I hg hm ?_ hdb)
  refine PySem.W.callWith_K (h₀ := X.base) I.ok.mod.kin hk (thn (ha pos pins s σ H _ I h) fun us s1 ⟨vs, H1, I1, r, q⟩ => ⟨I1.kIn, ?_⟩) he hpl
  exact run_fn F hr hb hd hx I1 r q
theorem pe_meth {pl : Sem Bool} (he : PE X o ta) (c : Cls X.K C) (hm : Meth X.K C m f) (F : FnOk X.prog X.w X.K X.mg X.base CX k f fd ps sp) (hr : Room k X.A) (hb : Binds X.K fd ps ds) (hd : Vals dvs ds) (hx : Passes CX X E) (ha : PA X (e :: es) t)
    (hst : starEach (e :: es) X.env = (false, eval e X.env) :: starEach es X.env := by rfl) (hpl : (backTo pos (starEach es X.env)).any (·.1) = false := by rfl)
    (ht : eval (.Call (.Attribute o m apos) (e :: es) [] pos) X.env = (do
      let ov ← eval o X.env
      standAt apos.atName
      let (f, first) ← holding [ov] (getMethod ov m pl)
      callWith pos f first (backTo pos (starEach (e :: es) X.env)) (backToKw pos (keywordEach [] X.env))) := by rfl) :
    PE X (.Call (.Attribute o m apos) (e :: es) [] pos) (tMeth C m sp dvs E ta t) := by
  intro pins s σ H Q I h
  refine PySem.W.methodCall_KW (pl := pl) (thn (he pins s σ H _ I h) fun u s1 ⟨x, H1, I1, rx, a, dx, fs, ex, ea, l, q⟩ => ?_) ht
  subst ex
  obtain rfl : u = Value.ref a := rx
  refine getmeth_ok I1 ea c hm l ?_
  refine PySem.W.callWith_K (first := [.ref a]) (h₀ := X.base) I.ok.mod.kin hm.kp (thn (ha pos pins s1 σ H1 _ I1 q) fun us s2 ⟨vs, H2, I2, r, q2⟩ => ⟨I2.kIn, ?_⟩) hst hpl
  exact run_fn (us := .ref a :: us) (vs := .ref a :: vs) F hr hb hd hx I2 (.cons rfl r) q2
structure Mk (K : PySem.W.Frag) (C f : Addr) : Prop where
  makes : PySem.W.makesIn K C = true
  init : PySem.W.findIn K (.ref C) "__init__" = some (some (.ref f))
  fn : PySem.W.isFn K (.ref f) = true
  kp : PySem.W.keepIn K (.ref C) = true
theorem run_make {pins : List (Addr × Obj)} {σ : St} {H : Hp} {s : Shared} {Q : VK} {us : List Value} {vs : List V} (M : Mk X.K C f) (F : FnOk X.prog X.w X.K X.mg X.base CX k f fd ps sp) (hr : Room (k + 1) X.A) (hb : Binds X.K fd ps ds) (hd : Vals dvs ds)
    (hx : Passes CX X E) (I : Inv X pins σ H s) (r : Vals vs us)
    (h : ∀ x dx, H x = none → H dx = none → dx ≠ x → sp (.ref x :: (vs ++ dvs)) (upd (upd H dx (.own x)) x (.ins C dx [])) (fun v H2 => v = .non ∧ Q (.ref x) H2) E) :
    wpAny (model X.prog X.w) X.A (call (.ref C) us) (EP X pins σ Q) X.xe s := by
  have hq := h (s.heap.objs.size + 1) s.heap.objs.size (I.hok.fresh (Nat.le_succ _)) (I.hok.fresh (Nat.le_refl _)) (Nat.ne_of_lt (Nat.lt_succ_self _))
  have I2 := Inv.made (C := C) I
  have r2 : Vals (V.ref (s.heap.objs.size + 1) :: (vs ++ dvs)) (Value.ref (s.heap.objs.size + 1) :: (us ++ ds)) := .cons rfl (r.append hd)
  have hl : (Value.ref (s.heap.objs.size + 1) :: us ++ ds).length = ps.length := by
    have e := r2.length
    rw [F.len _ _ _ _ hq] at e
    exact e.symm
  refine wpAny_call (make_map (f := f) I.kIn M.makes M.init (beq_iff_eq.mp M.fn) (codeAny_mono (F.run _ X.stack _ _ ⟨Value.ref (s.heap.objs.size + 1) :: us, []⟩ (Value.ref (s.heap.objs.size + 1) :: (us ++ ds)) _ _ E (hr.make C us [])
    (I2.env0.make C us []) (hb _ (Value.ref (s.heap.objs.size + 1) :: us) I2.kIn hl) r2 hq) fun r s' hq' => ?_))
  cases r with
  | error e => exact hx pins σ _ _ e s' I2 hq'
  | ok fl =>
    cases fl with
    | ret u =>
      obtain ⟨v, H', I3, rv, ev, q3⟩ := I2.after hq'
      subst ev
      exact ⟨rv, ⟨V.ref (s.heap.objs.size + 1), H', I3, rfl, q3⟩⟩
    | next => exact False.elim hq'
    | brk => exact False.elim hq'
    | cont => exact False.elim hq'
theorem pe_make0 (M : Mk X.K C f) (F : FnOk X.prog X.w X.K X.mg X.base CX k f fd ps sp) (hr : Room (k + 1) X.A) (hg : Gl X x) (hm : X.mg x = some (.ref C)) (hb : Binds X.K fd ps ds) (hd : Vals dvs ds) (hx : Passes CX X E)
    (hdb : (x == ("__debug__" : Str)) = false := by decide) : PE X (.Call (.Name x p) [] [] pos) (tMake C sp dvs E tNil) := by
  intro pins s σ H Q I h
  refine wpAny_Call_Name_kw (ld_glob I hg hm ?_ hdb)
  exact PySem.W.callWith_K0 I.kIn M.kp (run_make (us := []) M F hr hb hd hx I .nil h)
end
section
variable {X : Cx} {CX : CXT} {k : Nat} {f C : Addr} {fd : FuncData} {ps ks : List Str} {sp : Sp} {E : XK} {x m : Str} {p pos apos kpos : Pos} {e o : Expr} {es : List Expr} {kws : List Keyword} {te ta : TE} {t tk : TA} {nm : Option Str}
variable {g : List Value → List Value → List Value} {gV : List V → List V → List V}
end
structure FnScope (N P : List Str) (sc : Scope) : Prop where
  kind : sc.kind = .function
  co : sc.isCoroutine = false
  gen : sc.isGenerator = false
  nd : N.Nodup
  pre : N.take P.length = P
  par : ∀ x ∈ P, sc.names.lookup x = some .local ∨ sc.names.lookup x = some .cell
  nofree : ∀ y ∈ sc.names, y.2 ≠ .free
theorem bindL_out {kindOf : Str → Option NameKind} {x : Str} : ∀ {binds : List (Str × Value)} {m : Str → Option Value}, (∀ v, (x, v) ∉ binds) → bindL kindOf binds m x = m x
  | [], _, _ => rfl
  | (n, v) :: r, m, h => by
    unfold bindL
    rw [bindL_out fun w hw => h w (List.mem_cons_of_mem _ hw)]
    split
    · have : x ≠ n := by rintro rfl; exact h v List.mem_cons_self
      simp [this]
    · rfl
theorem bindC_out {kindOf : Str → Option NameKind} {x : Str} : ∀ {binds : List (Str × Value)} {m : Str → Option Value}, (∀ v, (x, v) ∉ binds) → bindC kindOf binds m x = m x
  | [], _, _ => rfl
  | (n, v) :: r, m, h => by
    unfold bindC
    rw [bindC_out fun w hw => h w (List.mem_cons_of_mem _ hw)]
    split
    · rfl
    · have : x ≠ n := by rintro rfl; exact h v List.mem_cons_self
      simp [this]
theorem bindL_get {kindOf : Str → Option NameKind} {x : Str} {v : Value} : ∀ {P : List Str} {vs : List Value} {i : Nat} {m : Str → Option Value}, P.Nodup → P[i]? = some x → vs[i]? = some v → kindOf x = some .local →
    bindL kindOf (P.zip vs) m x = some v
  | [], _, _, _, _, h, _, _ => by simp at h
  | _ :: _, [], _, _, _, _, h, _ => by simp at h
  | p :: P, w :: vs, 0, m, nd, h1, h2, hk => by
    simp at h1 h2; subst h1; subst h2
    show bindL kindOf ((p, w) :: P.zip vs) m p = _
    unfold bindL
    rw [bindL_out fun v hv => (List.nodup_cons.mp nd).1 (List.of_mem_zip hv).1, if_pos hk]
    simp
  | p :: P, w :: vs, i + 1, m, nd, h1, h2, hk => by
    show bindL kindOf ((p, w) :: P.zip vs) m x = _
    unfold bindL
    exact bindL_get (i := i) (List.nodup_cons.mp nd).2 (by simpa using h1) (by simpa using h2) hk
theorem bindC_get {kindOf : Str → Option NameKind} {x : Str} {v : Value} : ∀ {P : List Str} {vs : List Value} {i : Nat} {m : Str → Option Value}, P.Nodup → P[i]? = some x → vs[i]? = some v → kindOf x ≠ some .local →
    bindC kindOf (P.zip vs) m x = some v
  | [], _, _, _, _, h, _, _ => by simp at h
  | _ :: _, [], _, _, _, _, h, _ => by simp at h
  | p :: P, w :: vs, 0, m, nd, h1, h2, hk => by
    simp at h1 h2; subst h1; subst h2
    show bindC kindOf ((p, w) :: P.zip vs) m p = _
    unfold bindC
    rw [bindC_out fun v hv => (List.nodup_cons.mp nd).1 (List.of_mem_zip hv).1, if_neg hk]
    simp
  | p :: P, w :: vs, i + 1, m, nd, h1, h2, hk => by
    show bindC kindOf ((p, w) :: P.zip vs) m x = _
    unfold bindC
    exact bindC_get (i := i) (List.nodup_cons.mp nd).2 (by simpa using h1) (by simpa using h2) hk
noncomputable def start (N : List Str) (vs : List V) : St := vs.map some ++ List.replicate (N.length - vs.length) none
noncomputable def cxOf (CX : CXT) (P : Program) (w : World) (K : PySem.W.Frag) (mg : Str → Option Value) (base : Heap) (N : List Str) (qual : Str) (scope : Scope) (f : Addr) (cd : Value) (A : Around) (outer : List Env) (s : Shared) (H : Hp) (E : XK) : Cx where
  prog := P
  w := w
  K := K
  mg := mg
  base := base
  A := A.deeper (envOfC qual scope s.heap.objs.size f cd)
  N := N
  s₀ := s
  H₀ := H
  env := envOfC qual scope s.heap.objs.size f cd
  outer := outer
  stack := envOfC qual scope s.heap.objs.size f cd :: outer
  ex := []
  calm := true
  fn := fun _ => true
  pn := []
  xe := fun e s' => wpAny (model P w) (A.deeper (envOfC qual scope s.heap.objs.size f cd)) (leaving (envOfC qual scope s.heap.objs.size f cd) e) (fun _ s'' => CX outer H s E e s'') (fun e' s'' => CX outer H s E e' s'') s'
theorem cell_has {sc : Scope} {n : Nat} {x : Str} (h : sc.names.lookup x = some .cell) : ∃ c, (cellsFrom n sc.names []).lookup x = some c := by
  have q := PySem.W.cellsFrom_some sc.names n [] (.inl h)
  exact Option.isSome_iff_exists.mp q
theorem inv_start {CX : CXT} {P : Program} {w : World} {K : PySem.W.Frag} {mg : Str → Option Value} {base : Heap} {N ps : List Str} {qual : Str} {scope : Scope} {f : Addr} {cd : Value} {A : Around} {outer : List Env} {s s1 : Shared} {H : Hp} {E : XK} {us : List Value} {vs : List V}
    (S : FnScope N ps scope) (hd : A.handled = none) (e0 : Env0 P w K mg base A outer s H) (hl : vs.length = ps.length) (r : Vals vs us)
    (x : InCallC s s.heap.objs.size (bindL (envOfC qual scope s.heap.objs.size f cd).kindOf (ps.zip us) fun _ => none) (cellsFrom (s.heap.objs.size + 1) scope.names []) (bindC (envOfC qual scope s.heap.objs.size f cd).kindOf (ps.zip us) fun _ => none) s1) :
    Inv (cxOf CX P w K mg base N qual scope f cd A outer s H E) [] (start N vs) H s1 := by
  have hpl : ps.length ≤ N.length := by have := congrArg List.length S.pre; rw [List.length_take] at this; omega
  obtain ⟨h1, tk, rfl, hk⟩ := x.done
  have noA : ∀ b : Addr, b ∉ (cxOf CX P w K mg base N qual scope f cd A outer s H E).ex := fun b z => absurd (show b ∈ ([] : List Addr) from z) (by simp)
  refine ⟨⟨e0.mod, S.kind, rfl, rfl, Nat.le_refl _, fun y z c h1 h2 => ?_, fun y hy => ?_, fun y c _ h => ?_, fun _ => hd, Around.frames_deeper e0.frames, .inr ⟨rfl, rfl⟩, fun b z => absurd z (noA b), e0.bs, e0.bsz, fun b _ _ => noA b, fun b z => absurd z (noA b), e0.funs, e0.frf⟩,
    rfl, e0.bare, Un.kept hk, ⟨_, x.toInCall.ns, fun i y v h1 h2 h3 => ?_⟩, fun y c h => ⟨_, x.cell y c h⟩, e0.hok.fresh (Nat.le_refl _), fun y c h => ?_, fun p hp => absurd (show p ∈ ([] : List (Addr × Obj)) from hp) (by simp), e0.hok.kept hk, ?_⟩
  · exact name_of_addr x.apart (PySem.mem_of_lookup h1) (PySem.mem_of_lookup h2)
  · have hy : scope.names.lookup y = some .cell ∨ scope.names.lookup y = some .free := hy
    rcases hy with hy | hy
    · exact cell_has hy
    · exact absurd rfl (S.nofree _ (PySem.mem_of_lookup hy))
  · exact Nat.le_of_lt (x.above y c (PySem.mem_of_lookup h))
  · have hi : i < vs.length := by
      unfold start at h2
      by_cases hi : i < vs.length
      · exact hi
      · rw [List.getElem?_append_right (by simpa using hi)] at h2
        rw [List.getElem?_replicate] at h2
        split at h2 <;> cases h2
    have ha : vs[i]? = some v := by
      unfold start at h2
      rw [List.getElem?_append_left (by simpa using hi), List.getElem?_map] at h2
      cases e : vs[i]? with
      | none => rw [e] at h2; cases h2
      | some a => rw [e] at h2; cases h2; rfl
    obtain ⟨u, hu, rv⟩ := r.get ha
    have hp : ps[i]? = some y := by
      rw [← S.pre, List.getElem?_take_of_lt (by omega)]; exact h1
    have ndP : ps.Nodup := by rw [← S.pre]; exact S.nd.sublist (List.take_sublist _ _)
    refine ⟨u, rv, ?_⟩
    rcases S.par y (List.mem_of_getElem? hp) with k | k
    · exact .inl ⟨k, bindL_get ndP hp hu k⟩
    · obtain ⟨c, e⟩ := cell_has (n := s.heap.objs.size + 1) k
      refine .inr ⟨.inl k, c, e, ?_⟩
      have q := x.cell y c e
      rw [bindC_get ndP hp hu (by show scope.names.lookup y ≠ _; rw [k]; decide)] at q
      exact q
  · exact e0.hok.fresh (Nat.le_of_lt (x.above y c (PySem.mem_of_lookup h)))
  · unfold start
    show _ = N.length
    rw [List.length_append, List.length_map, List.length_replicate]
    omega
theorem fn_of {CX : CXT} {P : Program} {w : World} {K : PySem.W.Frag} {mg : Str → Option Value} {base : Heap} {k : Nat} {f : Addr} {name qual : Str} {params : Arguments} {body : List Stmt} {scope : Scope} {dV kV doc pm cdv ct oc : Value} {an od : Option Addr}
    {osl : Array (Option Value)} {N ps : List Str} {sp : Sp} (lk : K.lookup f = some ⟨oc, od, .func (PySem.W.fnOf name qual params body scope dV kV doc pm an cdv ct), osl⟩) (hcd : PySem.W.codeIn K cdv qual = true) (S : FnScope N ps scope)
    (len : ∀ vs H Q E, sp vs H Q E → vs.length = ps.length)
    (hbody : ∀ (A : Around) (outer : List Env) (s : Shared) (H : Hp) (vs : List V) (Q : VK) (E : XK), Room k (A.deeper (envOfC qual scope s.heap.objs.size f cdv)) → sp vs H Q E →
      ∃ t, PSs (cxOf CX P w K mg base N qual scope f cdv A outer s H E) body t ∧ t { nx := fun _ H' => Q .non H', rt := Q } (start N vs) H) :
    FnOk P w K mg base CX (k + 1) f (PySem.W.fnOf name qual params body scope dV kV doc pm an cdv ct) ps sp := by
  refine ⟨len, fun A outer s H args us vs Q E hr e0 hb r hsp => ?_⟩
  have hl := len _ _ _ _ hsp
  have KX : K.In s.heap := e0.mod.kin.keeps fun b o e => (e0.bs b o e).1
  have lim : s.heap.NoLimit := e0.mod.nolimit.keeps fun b o e => (e0.bs b o e).1
  have hkind : ∀ y ∈ ps.zip us, scope.names.lookup y.1 = some .local ∨ (scope.names.lookup y.1 = some .cell ∧ ((cellsFrom (s.heap.objs.size + 1) scope.names []).lookup y.1).isSome = true) := fun ⟨n, v⟩ hy => by
    rcases S.par n (List.of_mem_zip hy).1 with q | q
    · exact .inl q
    · exact .inr ⟨q, PySem.W.cellsFrom_some _ _ _ (.inl q)⟩
  refine codeAny_call_function hr.depth (KX _ _ lk) rfl S.co S.gen rfl (PySem.W.codeRec_of KX hcd) (hb _ _ _ _ ?_)
  refine wpAny_newFunctionEnv_cells S.kind hkind fun env he s1 x => ?_
  subst he
  refine ⟨lim.keeps x.toInCall.keep, codeAny_func ?_⟩
  obtain ⟨t, ht, hq⟩ := hbody A outer s H vs Q E (hr.deeper _) hsp
  have I : Inv (cxOf CX P w K mg base N qual scope f cdv A outer s H E) [] (start N vs) H s1 := inv_start S hr.hd e0 hl r x
  refine wpAny_mono (ht [] s1 (start N vs) H _ I hq) (fun fl s' hs => ?_) fun e s' hs => hs
  have fin : ∀ {σ' : St} {H' : Hp} {v : V} {u : Value}, Inv (cxOf CX P w K mg base N qual scope f cdv A outer s H E) [] σ' H' s' → RelV v u → Q v H' → CE outer P w H s Q u s' :=
    fun {σ' H' v u} J rv q => ⟨v, H', J.os, J.bare, J.base, J.hok, rv, q⟩
  cases fl with
  | ret u =>
    obtain ⟨v, σ', H', J, rv, q⟩ := hs
    exact fin J rv q
  | next =>
    obtain ⟨σ', H', J, q⟩ := hs
    exact fin (v := V.non) (u := Value.none) J rfl q
  | brk =>
    obtain ⟨_, _, _, q⟩ := hs
    exact False.elim q
  | cont =>
    obtain ⟨_, _, _, q⟩ := hs
    exact False.elim q
end L2
namespace L2
open PySem PySem.Spec PyProof.Rows
section
variable {X : Cx} {x : Str} {p pos : Pos} {e : Expr} {es : List Expr} {t : TA} {id T : String} {r : List V → Hp → VK → Prop}
noncomputable def tCB (r : List V → Hp → VK → Prop) (t : TA) : TE := fun σ H Q => t σ H fun vs H1 => r vs H1 Q
theorem pe_callB (hc : CallR X (.builtin id) r) (hg : Gl X x) (hm : X.mg x = none) (hv : bootBuiltins x = some (.builtin id)) (ha : PA X (e :: es) t) (hn : x ≠ "__name__" := by decide) (hdb : (x == ("__debug__" : Str)) = false := by decide)
    (he : starEach (e :: es) X.env = (false, eval e X.env) :: starEach es X.env := by rfl) (hpl : (backTo pos (starEach es X.env)).any (·.1) = false := by rfl) : PE X (.Call (.Name x p) (e :: es) [] pos) (tCB r t) := by
  intro pins s σ H Q I h
  refine wpAny_Call_Name_kw (ld_blt I hg hm hv ?_ hn hdb)
  exact PyProof.Rows.callWith_builtin1 (thn (ha pos pins s σ H _ I h) fun us s1 ⟨vs, H1, I1, r1, q1⟩ => hc pins s1 σ H1 vs us Q I1 r1 q1) he hpl
theorem pe_callTy (hc : CallR X (.type T) r) (hg : Gl X x) (hm : X.mg x = none) (hv : bootBuiltins x = some (.type T)) (ha : PA X (e :: es) t) (hn : x ≠ "__name__" := by decide) (hdb : (x == ("__debug__" : Str)) = false := by decide)
    (he : starEach (e :: es) X.env = (false, eval e X.env) :: starEach es X.env := by rfl) (hpl : (backTo pos (starEach es X.env)).any (·.1) = false := by rfl) : PE X (.Call (.Name x p) (e :: es) [] pos) (tCB r t) := by
  intro pins s σ H Q I h
  refine wpAny_Call_Name_kw (ld_blt I hg hm hv ?_ hn hdb)
  exact PyProof.Rows.callWith_type1 (thn (ha pos pins s σ H _ I h) fun us s1 ⟨vs, H1, I1, r1, q1⟩ => hc pins s1 σ H1 vs us Q I1 r1 q1) he hpl
end
end L2
namespace HT
open PySem PyProof.Rows
section
open PySem.SeqAt
open PySem.AutoSeq1 (wpAny_loadPart')
open PySem.MeetsSeq PySem.MeetsSeq2 PySem.MeetsSeq3
end
section
variable {prog : Program} {w : World} {A : Around} {E : Value → Shared → Prop} {s : Shared}
noncomputable def sIx (n d : Nat) : Option Int → Nat
  | none => d
  | some v => if v < 0 then (v + (n : Int)).toNat else min v.toNat n
theorem sIx_none (n d : Nat) : sIx n d none = d := rfl
end
end HT
namespace L2
open PySem PySem.Spec PyProof.Rows
noncomputable abbrev TO := St → Hp → (Option Int → Hp → Prop) → Prop
noncomputable def PO (X : Cx) (e : Option Expr) (t : TO) : Prop :=
  ∀ (pins : List (Addr × Obj)) (s : Shared) (σ : St) (H : Hp) (Q : Option Int → Hp → Prop), Inv X pins σ H s → t σ H Q →
    wpAny (model X.prog X.w) X.A (evalPart e X.env) (fun u s' => ∃ o H', Inv X pins σ H' s' ∧ IsPart u o ∧ Q o H') X.xe s
noncomputable def tNoPart : TO := fun _ H Q => Q none H
noncomputable def tPart (t : TE) : TO := fun σ H Q => t σ H fun x H1 => ∃ i, x = .int i ∧ Q (some i) H1
theorem intsAre_of {ns : List Int} : ∀ {us : List Value}, Vals (ns.map V.int) us → IntsAre us ns := by
  induction ns with
  | nil => intro us r; rw [List.map_nil] at r; cases r; exact .nil
  | cons n ns ih =>
    intro us r
    rw [List.map_cons] at r
    cases r with
    | cons r1 r2 =>
      obtain ⟨t, e⟩ := r1
      subst e
      exact .cons n t (ih r2)
section
variable {X : Cx} {e : Expr} {te : TE} {lo hi : Option Expr} {tl th : TO} {pos p2 : Pos}
theorem po_none : PO X none tNoPart := by
  intro pins s σ H Q I h
  rw [evalPart_none]
  exact wpAny_pure ⟨none, H, I, .none, h⟩
theorem po_some (h : PE X e te) : PO X (some e) (tPart te) := by
  intro pins s σ H Q I hw
  rw [evalPart_some]
  refine thn (h pins s σ H _ I hw) fun u s1 ⟨x, H1, I1, r1, q1⟩ => ?_
  obtain ⟨i, rfl, q⟩ := q1
  obtain ⟨t, rfl⟩ := r1
  exact ⟨some i, H1, I1, .int i t, q⟩
noncomputable def SlR (X : Cx) (r : V → Option Int → Option Int → Hp → VK → Prop) : Prop :=
  ∀ (pins : List (Addr × Obj)) (s : Shared) (σ : St) (H : Hp) (x : V) (v vl vu : Value) (lo hi : Option Int) (sl : Addr) (Q : VK), Inv X pins σ H s → RelV x v → s.heap.IsSliceOf sl vl vu .none → IsPart vl lo → IsPart vu hi → r x lo hi H Q →
    ∃ T id, typeLookup (.type T) "__getitem__" = pure (some (.builtin id)) ∧ s.TypeIs v T ∧ wpAny (model X.prog X.w) X.A (getItem v (.ref sl)) (EP X pins σ Q) X.xe s
noncomputable def tSl (r : V → Option Int → Option Int → Hp → VK → Prop) (te : TE) (tl th : TO) : TE := fun σ H Q => te σ H fun x H1 => tl σ H1 fun l H2 => th σ H2 fun u H3 => r x l u H3 Q
theorem pe_slice {r : V → Option Int → Option Int → Hp → VK → Prop} (hr : SlR X r) (he : PE X e te) (hl : PO X lo tl) (hu : PO X hi th) : PE X (.Subscript e (.Slice lo hi none p2) pos) (tSl r te tl th) := by
  intro pins s σ H Q I h
  refine Subscript_ (thn (he pins s σ H _ I h) fun v s1 ⟨x, H1, I1, r1, q1⟩ => ?_)
  refine wpAny_Slice (thn (hl pins s1 σ H1 _ I1 q1) fun vl s2 ⟨l, H2, I2, pl, q2⟩ => thn (hu pins s2 σ H2 _ I2 q2) fun vu s3 ⟨u, H3, I3, pu, q3⟩ => ?_)
  rw [evalPart_none]
  refine wpAny_pure ?_
  have I4 : Inv X pins σ H3 { s3 with heap := s3.heap.push { cls := .type "slice", data := .fields #[vl, vu, .none] } } := I3.kept (t' := s3.toks) fun b ob q => Heap.get?_push_of_some _ q
  obtain ⟨T, id, hT, ht, hg⟩ := hr pins { s3 with heap := s3.heap.push { cls := .type "slice", data := .fields #[vl, vu, .none] } } σ H3 x v vl vu l u s3.heap.objs.size Q I4 r1 (Heap.IsSliceOf.new ..) pl pu q3
  show wpAny (model X.prog X.w) X.A (subscriptTail e (.Slice lo hi none p2) v (.ref s3.heap.objs.size)) (EP X pins σ Q) X.xe { s3 with heap := s3.heap.push { cls := .type "slice", data := .fields #[vl, vu, .none] } }
  exact tail_any (ops := [.ref s3.heap.objs.size, v]) ht hT hg (by with_unfolding_all rfl)
noncomputable def cutV (xs : List V) (lo hi : Option Int) : List V := (xs.drop (HT.sIx xs.length 0 lo)).take (HT.sIx xs.length xs.length hi - HT.sIx xs.length 0 lo)
theorem cutV_length (xs : List V) (lo hi : Option Int) : (cutV xs lo hi).length ≤ xs.length := by
  unfold cutV
  rw [List.length_take, List.length_drop]
  omega
end
end L2
namespace L2
open PySem PySem.Spec PyProof.Rows
noncomputable def ixN (n : Nat) (i : Int) : Option Nat := if 0 ≤ i then (if i < n then some i.toNat else none) else if -(n : Int) ≤ i then some (i + n).toNat else none
noncomputable def atI {α : Type} (xs : List α) (i : Int) : Option α := (ixN xs.length i).bind fun j => xs[j]?
theorem ixN_seq {n : Nat} {i : Int} {j : Nat} (h : ixN n i = some j) : seqIndex? i n = some j ∧ j < n ∧ -(n : Int) ≤ i ∧ i < n := by
  unfold ixN at h
  by_cases h0 : 0 ≤ i
  · rw [if_pos h0] at h
    by_cases h1 : i < n
    · rw [if_pos h1] at h
      have e : i.toNat = j := Option.some.inj h
      exact ⟨by rw [seqIndex_of h0 h1, e], by omega, by omega, h1⟩
    · rw [if_neg h1] at h; cases h
  · rw [if_neg h0] at h
    by_cases h1 : -(n : Int) ≤ i
    · rw [if_pos h1] at h
      have e : (i + n).toNat = j := Option.some.inj h
      exact ⟨by rw [seqIndex_neg (by omega) h1, e], by omega, h1, by omega⟩
    · rw [if_neg h1] at h; cases h
theorem atI_get {α : Type} {xs : List α} {i : Int} {v : α} (h : atI xs i = some v) : ∃ j, seqIndex? i xs.length = some j ∧ xs[j]? = some v ∧ j < xs.length ∧ -(xs.length : Int) ≤ i ∧ i < xs.length := by
  unfold atI at h
  cases e : ixN xs.length i with
  | none => rw [e] at h; cases h
  | some j =>
    rw [e] at h
    obtain ⟨h1, h2, h3, h4⟩ := ixN_seq e
    exact ⟨j, h1, h, h2, h3, h4⟩
theorem atI_nat {α : Type} {xs : List α} {j : Nat} {v : α} (h : xs[j]? = some v) : atI xs (j : Int) = some v := by
  have hj : j < xs.length := (List.getElem?_eq_some_iff.mp h).1
  have e : ixN xs.length (j : Int) = some j := by
    unfold ixN
    rw [if_pos (by omega), if_pos (by omega)]; simp
  unfold atI; rw [e]; exact h
noncomputable def PlainIx (b : Expr) : Prop := ∀ o i, subscripted b false o i = operate [o, i] (getItem o i)
noncomputable def IxR (X : Cx) (r : R2) : Prop :=
  ∀ (value slice : Expr) (pins : List (Addr × Obj)) (s : Shared) (σ : St) (H : Hp) (x y : V) (v u : Value) (Q : VK), Inv X pins σ H s → RelV x v → RelV y u → r x y H Q →
    subscripted slice false v u = operate [v, u] (getItem v u) → wpAny (model X.prog X.w) X.A (subscriptTail value slice v u) (EP X pins σ Q) X.xe s
noncomputable def MtR (X : Cx) (id : String) (r : V → List V → Hp → VK → Prop) : Prop :=
  ∀ (pins : List (Addr × Obj)) (s : Shared) (σ : St) (H : Hp) (x : V) (xs : List V) (v : Value) (us : List Value) (Q : VK), Inv X pins σ H s → RelV x v → Vals xs us → r x xs H Q →
    wpAny (model X.prog X.w) X.A (call (.builtin id) (v :: us)) (EP X pins σ Q) X.xe s
section
variable {X : Cx} {a b : Expr} {ta tb : TE} {pos : Pos}
theorem pe_ix {r : R2} (hr : IxR X r) (ha : PE X a ta) (hb : PE X b tb) (hs : PlainIx b) : PE X (.Subscript a b pos) (tOp r ta tb) := by
  intro pins s σ H Q I h
  exact Subscript_ (binT ha hb I h fun v u s2 x y H2 I2 rx ry q => hr a b pins s2 σ H2 x y v u Q I2 rx ry q (hs _ _))
noncomputable def rIxL (K : PySem.W.Frag) : R2 := fun x y H Q => ∃ p xs i v, x = .ref p ∧ y = .int i ∧ SqL K H p xs ∧ atI xs i = some v ∧ Q v H
noncomputable def rIxT (K : PySem.W.Frag) : R2 := fun x y H Q => ∃ p xs i v, x = .ref p ∧ y = .int i ∧ SqT K H p xs ∧ atI xs i = some v ∧ Q v H
noncomputable def rIxS : R2 := fun x y H Q => ∃ z i c, x = .str z ∧ y = .int i ∧ z.length ≤ sizeLine ∧ atI z.cps.toList i = some c ∧ Q (.str ⟨#[c]⟩) H
theorem ix_list : IxR X (rIxL X.K) := by
  intro value slice pins s σ H x y v u Q I rx ry h hs
  obtain ⟨p, xs, i, z, rfl, rfl, hq, he, q⟩ := h
  cases rx
  obtain ⟨t, rfl⟩ := ry
  obtain ⟨its, r, pl, hz⟩ := I.list hq
  obtain ⟨j, h1, h2, h3, h4, h5⟩ := atI_get he
  obtain ⟨w, ew, rw'⟩ := r.get h2
  have hl := r.length
  have hn := line63
  have fin : EP X pins σ Q w s := ⟨z, H, I, rw', q⟩
  by_cases h0 : 0 ≤ i
  · have hj : i.toNat = j := by
      rw [seqIndex_of h0 h5] at h1
      exact Option.some.inj h1
    exact item_listR pl.isList h0 (by omega) (by rw [hj]; simpa using ew) fin hs
  · have hj : (i + (its.toArray.size : Int)).toNat = j := by
      rw [seqIndex_neg (by omega) h4] at h1
      rw [List.size_toArray, ← hl]
      exact Option.some.inj h1
    exact subscriptTail_builtinR (x := w) pl.isList.typeIs slot_list_getitem.lookup
      (wpAny_getItem_list_neg (Q := fun r s' => r = w ∧ EP X pins σ Q r s') pl.isList (by omega) (by rw [List.size_toArray] <;> omega) (by omega) (by rw [hj]; simpa using ew) ⟨rfl, fin⟩) hs
theorem ix_tup : IxR X (rIxT X.K) := by
  intro value slice pins s σ H x y v u Q I rx ry h hs
  obtain ⟨p, xs, i, z, rfl, rfl, hq, he, q⟩ := h
  cases rx
  obtain ⟨t, rfl⟩ := ry
  obtain ⟨its, r, pl, hz⟩ := I.tuple hq
  obtain ⟨j, h1, h2, h3, h4, h5⟩ := atI_get he
  obtain ⟨w, ew, rw'⟩ := r.get h2
  have hl := r.length
  have hn := line63
  have fin : EP X pins σ Q w s := ⟨z, H, I, rw', q⟩
  exact subscriptTail_builtinR (x := w) pl.typeIs slot_tuple_getitem.lookup
    (getItem_tuple (j := j) (Q := fun r s' => r = w ∧ EP X pins σ Q r s') pl (by omega) (by omega) (by rw [List.size_toArray, ← hl]; exact h1) (by simpa using ew) ⟨rfl, fin⟩) hs
theorem ix_str : IxR X rIxS := by
  intro value slice pins s σ H x y v u Q I rx ry h hs
  obtain ⟨z, i, c, rfl, rfl, hz, he, q⟩ := h
  obtain ⟨t, rfl⟩ := rx
  obtain ⟨t', rfl⟩ := ry
  obtain ⟨j, h1, h2, h3, h4, h5⟩ := atI_get he
  have hl : z.cps.toList.length = z.length := by simp [Str.length]
  rw [hl] at h1 h4 h5
  have hn := line63
  exact tail_any (typeIs_str s z t) slot_str_getitem.lookup (getItem_str (c := c) (by
    have e1 : decide (i < -(2 ^ 63 : Int)) = false := decide_eq_false (by omega)
    have e2 : decide (i ≥ 2 ^ 63) = false := decide_eq_false (by omega)
    rw [e1, e2, Bool.or_false]) (by rw [h1]; simpa using h2) ⟨.str ⟨#[c]⟩, H, I.tok _, ⟨_, rfl⟩, q⟩) hs
theorem mapSeq_set (its : List Value) (n j : Nat) (u : Value) : Obj.mapSeq (·.setIfInBounds j u) { cls := .type "list", data := .seq its.toArray n } = { cls := .type "list", data := .seq (its.set j u).toArray n } := by
  simp [Obj.mapSeq]
theorem Inv.lst {pins : List (Addr × Obj)} {σ : St} {H : Hp} {s : Shared} {p : Addr} {xs : List V} (I : Inv X pins σ H s) (h : H p = some (.lst xs)) :
    ∃ (its : List Value) (n : Nat), Vals xs its ∧ s.heap.get? p = some { cls := .type "list", data := .seq its.toArray n } ∧ xs.length ≤ sizeLine := by
  obtain ⟨z, its, n, r, e⟩ := I.hok p _ h
  exact ⟨its, n, r, e, z⟩
theorem Inv.lstUpd {pins : List (Addr × Obj)} {σ : St} {H : Hp} {s : Shared} {p : Addr} {xs ys : List V} {its its' : List Value} {n n' : Nat} {f : Obj → Obj} (I : Inv X pins σ H s) (h : H p = some (.lst xs))
    (ho : s.heap.get? p = some { cls := .type "list", data := .seq its.toArray n }) (hf : f { cls := .type "list", data := .seq its.toArray n } = { cls := .type "list", data := .seq its'.toArray n' }) (r : Vals ys its') (hz : ys.length ≤ sizeLine) (t : Nat) :
    Inv X pins σ (upd H p (.lst ys)) { s with heap := s.heap.update p f, toks := t } := by
  have e : (s.heap.update p f).get? p = some { cls := .type "list", data := .seq its'.toArray n' } := by
    rw [Heap.get?_update_self f ho (by rw [hf] <;> rfl), hf]
  refine I.write (x := p) (e := p) (by rw [h]; trivial) (.inl rfl) (fun b u hb q => (Heap.get?_update_other _ _ (Ne.symm hb)).trans q) ⟨_, e⟩ ?_
  exact ⟨hz, its', n', r, e⟩
noncomputable def rSetL : V → V → V → Hp → (Hp → Prop) → Prop := fun o i v H Q => ∃ p xs k j, o = .ref p ∧ i = .int k ∧ H p = some (.lst xs) ∧ ixN xs.length k = some j ∧ Q (upd H p (.lst (xs.set j v)))
theorem set_list : PSet X rSetL := by
  intro pins s σ H o i v ov iv u Q I ro ri rv h
  obtain ⟨p, xs, k, j, rfl, rfl, hp, hj, q⟩ := h
  cases ro
  obtain ⟨t, rfl⟩ := ri
  obtain ⟨its, n, r, ho, hz⟩ := I.lst hp
  obtain ⟨h1, h2, h3, h4⟩ := ixN_seq hj
  have hl := r.length
  have hn := line63
  have I' : Inv X pins σ (upd H p (.lst (xs.set j v))) { s with heap := s.heap.update p (Obj.mapSeq (·.setIfInBounds j u)) } :=
    I.lstUpd hp ho (mapSeq_set its n j u) (r.set rv j) (by rw [List.length_set]; exact hz) s.toks
  by_cases h0 : 0 ≤ k
  · have hk : k.toNat = j := by
      rw [seqIndex_of h0 h4] at h1
      exact Option.some.inj h1
    exact PySem.W.ki_setAt ho h0 (by omega) (by rw [List.size_toArray, ← hl]; exact h4) (by rw [hk]; exact ⟨_, I', q⟩)
  · have hk : (k + (its.toArray.size : Int)).toNat = j := by
      rw [seqIndex_neg (by omega) h3] at h1
      rw [List.size_toArray, ← hl]
      exact Option.some.inj h1
    exact PySem.W.ki_setBack ho (by omega) (by rw [List.size_toArray, ← hl]; exact h3) (by omega) (by rw [hk]; exact ⟨_, I', q⟩)
theorem slice_bounds (lo hi : Option Int) (n : Nat) : (sliceBounds lo hi none n).1 = ((HT.sIx n 0 lo : Nat) : Int) ∧ (sliceBounds lo hi none n).2.1 = ((HT.sIx n n hi : Nat) : Int) ∧ (sliceBounds lo hi none n).2.2 = 1 := by
  refine ⟨?_, ?_, rfl⟩
  · cases lo with
    | none => simp [sliceBounds, HT.sIx]
    | some i =>
      simp only [sliceBounds, HT.sIx, Option.getD_none, show (1 : Int) > 0 by decide, if_true]
      by_cases h : i < 0
      · simp only [h, if_true] <;> omega
      · simp only [h, if_false] <;> omega
  · cases hi with
    | none => simp [sliceBounds, HT.sIx]
    | some i =>
      simp only [sliceBounds, HT.sIx, Option.getD_none, show (1 : Int) > 0 by decide, if_true]
      by_cases h : i < 0
      · simp only [h, if_true] <;> omega
      · simp only [h, if_false] <;> omega
theorem slicePick_cut (its : List Value) (lo hi : Option Int) : slicePick its.toArray lo hi none = ((its.drop (HT.sIx its.length 0 lo)).take (HT.sIx its.length its.length hi - HT.sIx its.length 0 lo)).toArray := by
  obtain ⟨h1, h2, h3⟩ := slice_bounds lo hi its.toArray.size
  unfold slicePick
  rw [h1, h2, h3]
  simp only [sliceRange_one, pick_run, List.size_toArray] <;> rfl
noncomputable def rSlL (K : PySem.W.Frag) : V → Option Int → Option Int → Hp → VK → Prop := fun x lo hi H Q => ∃ a xs, x = .ref a ∧ SqL K H a xs ∧ ∀ p, H p = none → Q (.ref p) (upd H p (.lst (cutV xs lo hi)))
theorem sl_list : SlR X (rSlL X.K) := by
  intro pins s σ H x v vl vu lo hi sl Q I rx hs pl pu h
  obtain ⟨a, xs, rfl, hx, q⟩ := h
  cases rx
  obtain ⟨its, r, ht, hz⟩ := I.list hx
  have hlen := r.length
  refine ⟨"list", _, slot_list_getitem.lookup, ht.isList.typeIs, ?_⟩
  refine wpAny_getItem_list_slice ht.isList hs pl pu .none (by simp) ?_ (by rw [List.size_toArray] <;> omega)
  rw [slicePick_cut, ← hlen]
  refine ⟨.ref s.heap.objs.size, _, I.laid (t' := s.toks) (o := .lst (cutV xs lo hi)) (fun b ob q => Heap.get?_push_of_some _ q) (Nat.le_refl _) ?_, rfl, q _ (I.hok.fresh (Nat.le_refl _))⟩
  exact ⟨Nat.le_trans (cutV_length xs lo hi) hz, _, 0, (r.drop (HT.sIx xs.length 0 lo)).take (HT.sIx xs.length xs.length hi - HT.sIx xs.length 0 lo), Heap.get?_push_size _ rfl⟩
noncomputable def flatV : V → Bool
  | .non => true
  | .bl _ => true
  | .int _ => true
  | .str _ => true
  | _ => false
noncomputable def eqV : V → V → Bool
  | .non, .non => true
  | .bl a, .bl b => a == b
  | .bl a, .int b => (if a then 1 else 0) == b
  | .int a, .bl b => a == (if b then 1 else 0)
  | .int a, .int b => a == b
  | .str a, .str b => a == b
  | _, _ => false
theorem eqAt_V {A : Around} {s : Shared} {y x : V} {u v : Value} (ry : RelV y u) (rx : RelV x v) (fy : flatV y = true) (fx : flatV x = true) : SeqAt.EqAt A s u v (eqV y x) := by
  cases y with
  | non =>
    cases ry
    cases x with
    | non => cases rx; exact SeqAt.EqAt.same _
    | bl b => cases rx; exact SeqAt.EqAt.none_bool b
    | int b => obtain ⟨t, rfl⟩ := rx; exact SeqAt.EqAt.none_int b t
    | str b => obtain ⟨t, rfl⟩ := rx; exact SeqAt.EqAt.none_str b t
    | _ => exact absurd (show false = true from fx) Bool.false_ne_true
  | bl a =>
    cases ry
    cases x with
    | non => cases rx; exact SeqAt.EqAt.bool_none a
    | bl b => cases rx; exact SeqAt.EqAt.bool_bool a b
    | int b => obtain ⟨t, rfl⟩ := rx; exact SeqAt.EqAt.bool_int a b t
    | str b => obtain ⟨t, rfl⟩ := rx; exact SeqAt.EqAt.bool_str a b t
    | _ => exact absurd (show false = true from fx) Bool.false_ne_true
  | int a =>
    obtain ⟨t', rfl⟩ := ry
    cases x with
    | non => cases rx; exact SeqAt.EqAt.int_none a t'
    | bl b => cases rx; exact SeqAt.EqAt.int_bool a t' b
    | int b => obtain ⟨t, rfl⟩ := rx; exact SeqAt.EqAt.int_int a t' b t
    | str b => obtain ⟨t, rfl⟩ := rx; exact SeqAt.EqAt.int_str a t' b t
    | _ => exact absurd (show false = true from fx) Bool.false_ne_true
  | str a =>
    obtain ⟨t', rfl⟩ := ry
    cases x with
    | non => cases rx; exact SeqAt.EqAt.str_none a t'
    | bl b => cases rx; exact SeqAt.EqAt.str_bool a t' b
    | int b => obtain ⟨t, rfl⟩ := rx; exact SeqAt.EqAt.str_int a t' b t
    | str b => obtain ⟨t, rfl⟩ := rx; exact SeqAt.EqAt.str_str a t' b t
    | _ => exact absurd (show false = true from fx) Bool.false_ne_true
  | _ => exact absurd (show false = true from fy) Bool.false_ne_true
theorem call_len_seq : CallR X (.builtin "len") (fun xs H Q => ∃ p ys, xs = [.ref p] ∧ (SqL X.K H p ys ∨ SqT X.K H p ys) ∧ Q (.int ys.length) H) := by
  intro pins s σ H xs us Q I r h
  obtain ⟨p, ys, rfl, hq, q⟩ := h
  obtain ⟨u, rfl, rx⟩ := vals1 r
  cases rx
  have hn := line63
  rcases hq with hq | hq
  · obtain ⟨its, r', pl, hz⟩ := I.list hq
    have hlen := r'.length
    exact Calls.call_len_list pl.isList (by simp only [List.size_toArray] <;> omega) ⟨.int ys.length, H, I.tok _, ⟨s.toks + 1, by rw [List.size_toArray, hlen]⟩, q⟩
  · obtain ⟨its, r', pl, hz⟩ := I.tuple hq
    have hlen := r'.length
    exact len_tuple pl (by simp only [List.size_toArray] <;> omega) ⟨.int ys.length, H, I.tok _, ⟨s.toks + 1, by rw [List.size_toArray, hlen]⟩, q⟩
theorem call_len_str : CallR X (.builtin "len") (fun xs H Q => ∃ z, xs = [.str z] ∧ z.length ≤ sizeLine ∧ Q (.int z.length) H) := by
  intro pins s σ H xs us Q I r h
  obtain ⟨z, rfl, hz, q⟩ := h
  obtain ⟨u, rfl, t, rfl⟩ := vals1 r
  have hn := line63
  exact len_str (by omega) ⟨.int z.length, H, I.tok _, ⟨_, rfl⟩, q⟩
theorem call_list_of : CallR X (.type "list") (fun xs H Q => ∃ p ys, xs = [.ref p] ∧ (SqL X.K H p ys ∨ SqT X.K H p ys) ∧ ∀ l, H l = none → Q (.ref l) (upd H l (.lst ys))) := by
  intro pins s σ H xs us Q I r h
  obtain ⟨p, ys, rfl, hq, q⟩ := h
  obtain ⟨u, rfl, rx⟩ := vals1 r
  cases rx
  have fin : ∀ (its : List Value), Vals ys its → ys.length ≤ sizeLine → ∀ (h' : Heap) (c' : Nat), (∀ b o', s.heap.get? b = some o' → h'.get? b = some o') →
      h'.get? s.heap.objs.size = some { cls := .type "list", dict := none, data := .seq its.toArray c', slots := #[] } → EP X pins σ Q (.ref s.heap.objs.size) { s with heap := h' } := fun its r' hz h' c' kp e =>
    ⟨.ref s.heap.objs.size, _, I.laid (t' := s.toks) kp (Nat.le_refl _) (show ObjOk X.prog X.w _ h' _ (.lst ys) from ⟨hz, its, c', r', e⟩), rfl, q _ (I.hok.fresh (Nat.le_refl _))⟩
  rcases hq with hq | hq
  · obtain ⟨its, r', pl, hz⟩ := I.list hq
    have hlen := r'.length
    obtain ⟨o, ho, hc, n, hd⟩ := pl.isList
    exact call_list_seq p (.inl rfl) ho hc hd (fun h' c' kp e => fin its r' hz h' c' kp e) (by simp only [List.size_toArray] <;> omega)
  · obtain ⟨its, r', pl, hz⟩ := I.tuple hq
    have hlen := r'.length
    obtain ⟨o, ho, hc, n, hd⟩ := pl
    exact call_list_seq p (.inr rfl) ho hc hd (fun h' c' kp e => fin its r' hz h' c' kp e) (by simp only [List.size_toArray] <;> omega)
noncomputable def tyV (K : PySem.W.Frag) (T : String) (x : V) (H : Hp) : Prop := match x with
  | .str _ => T = "str"
  | .int _ => T = "int"
  | .ref p => (T = "list" ∧ ∃ xs, SqL K H p xs) ∨ (T = "tuple" ∧ ∃ o, K.lookup p = some o ∧ o.cls = .type "tuple" ∧ o.dict = none) ∨
      (T = "dict" ∧ ((∃ kvs, H p = some (.dK kvs)) ∨ ∃ kvs, H p = some (.dT kvs))) ∨ (T = "set" ∧ ∃ S n, H p = some (.set S n))
  | _ => False
theorem tyV_is {pins : List (Addr × Obj)} {σ : St} {H : Hp} {s : Shared} {T : String} {x : V} {v : Value} (I : Inv X pins σ H s) (r : RelV x v) (ty : tyV X.K T x H) :
    s.TypeIs v T ∧ ∀ a, v = .ref a → ∃ ob, s.heap.get? a = some ob ∧ ob.dict = none := by
  cases x with
  | str z =>
    obtain ⟨t, rfl⟩ := r
    cases (show T = "str" from ty)
    exact ⟨typeIs_str s z t, fun _ e => nomatch e⟩
  | int i =>
    obtain ⟨t, rfl⟩ := r
    cases (show T = "int" from ty)
    exact ⟨typeIs_int s i t, fun _ e => nomatch e⟩
  | ref p =>
    cases r
    rcases ty with ⟨rfl, xs, hq⟩ | ⟨rfl, o, hk, hc, hd⟩ | ⟨rfl, hk⟩ | ⟨rfl, S, n, hk⟩
    · obtain ⟨its, _, pl, _⟩ := I.list hq
      refine ⟨pl.isList.typeIs, fun a e => ?_⟩
      cases e
      obtain ⟨o, n, e, c, hd, _⟩ := pl
      exact ⟨o, e, hd⟩
    · refine ⟨⟨o, I.kIn p o hk, hc⟩, fun a e => ?_⟩
      cases e
      exact ⟨o, I.kIn _ o hk, hd⟩
    · have z : ∃ o, s.heap.get? p = some o ∧ o.ExactDict := by
        rcases hk with ⟨kvs, hk⟩ | ⟨kvs, hk⟩
        · obtain ⟨_, _, _, _, o, _, _, e, ex, _⟩ := I.hok p _ hk
          exact ⟨o, e, ex⟩
        · obtain ⟨_, _, _, _, o, _, _, e, ex, _⟩ := I.hok p _ hk
          exact ⟨o, e, ex⟩
      obtain ⟨o, e, ex⟩ := z
      refine ⟨⟨o, e, ex.1⟩, fun a e2 => ?_⟩
      cases e2
      exact ⟨o, e, ex.2.1⟩
    · obtain ⟨o, _, _, _, e, ex, _⟩ := I.hok p _ hk
      refine ⟨⟨o, e, ex.1⟩, fun a e2 => ?_⟩
      cases e2
      exact ⟨o, e, ex.2.1⟩
  | _ => exact False.elim ty
noncomputable def tBM0 (K : PySem.W.Frag) (T : String) (r : V → List V → Hp → VK → Prop) (to : TE) : TE := fun σ H Q => to σ H fun x H1 => tyV K T x H1 ∧ r x [] H1 Q
noncomputable def tBM (K : PySem.W.Frag) (T : String) (r : V → List V → Hp → VK → Prop) (to : TE) (t : TA) : TE := fun σ H Q => to σ H fun x H1 => tyV K T x H1 ∧ t σ H1 fun xs H2 => r x xs H2 Q
variable {o e : Expr} {es : List Expr} {to : TE} {t : TA} {name : Str} {apos cpos : Pos} {T id : String} {r : V → List V → Hp → VK → Prop}
theorem pe_bm0 (pa : PlainAttrs T) (slot : Slot T name id) (hty : typeOf (.builtin id) = pure (.type "method_descriptor")) (hm : MtR X id r) (ho : PE X o to)
    (hbase : attributeBase o name X.env (eval o X.env) = eval o X.env := by rfl) (hline : (apos.endLine == cpos.line) = true := by rfl) : PE X (.Call (.Attribute o name apos) [] [] cpos) (tBM0 X.K T r to) := by
  intro pins s σ H Q I h
  refine wpAny_Call_method0_late hbase hline (thn (ho pins s σ H _ I h) fun v s1 ⟨x, H1, I1, r1, ty, q1⟩ => ?_)
  obtain ⟨h1, h2⟩ := tyV_is I1 r1 ty
  exact ⟨T, id, pa, slot, hty, h1, h2, Calls.callWith_builtin rfl (PySem.evalArgs_none (hm pins s1 σ H1 x [] v [] Q I1 r1 .nil q1))⟩
theorem pe_bm (pa : PlainAttrs T) (slot : Slot T name id) (hty : typeOf (.builtin id) = pure (.type "method_descriptor")) (hm : MtR X id r) (ho : PE X o to) (ha : PA X (e :: es) t)
    (hbase : attributeBase o name X.env (eval o X.env) = eval o X.env := by rfl)
    (hfew : ((backTo cpos (starEach (e :: es) X.env)).all (fun x => !x.1) && (backToKw cpos (keywordEach [] X.env)).all (fun x => x.1.isSome)
      && decide ((e :: es).length + ([] : List Keyword).length + (if ([] : List Keyword).isEmpty then 0 else 1) < 30)) = true := by rfl)
    (hline : (apos.endLine == cpos.line) = true := by rfl) (hs : starEach (e :: es) X.env = (false, eval e X.env) :: starEach es X.env := by rfl) (hplain : (backTo cpos (starEach es X.env)).any (·.1) = false := by rfl) :
    PE X (.Call (.Attribute o name apos) (e :: es) [] cpos) (tBM X.K T r to t) := by
  intro pins s σ H Q I h
  refine wpAny_Call_method_late hbase hfew hline rfl (thn (ho pins s σ H _ I h) fun v s1 ⟨x, H1, I1, r1, ty, q1⟩ => ?_)
  obtain ⟨h1, h2⟩ := tyV_is I1 r1 ty
  refine ⟨T, id, pa, slot, hty, h1, h2, ?_⟩
  have hA := ha cpos pins s1 σ H1 _ I1 q1
  rw [hs] at hA ⊢
  refine Calls.callWith_builtin (by show (false || (backTo cpos (starEach es X.env)).any (·.1)) = false; rw [hplain] <;> rfl) (Calls.evalArgs_plain ?_)
  exact thn hA fun us s2 ⟨vs, H2, I2, r2, q2⟩ => hm pins s2 σ H2 x vs v us Q I2 r1 r2 q2
end
end L2
namespace L2
open PySem PySem.Spec PyProof.Rows
noncomputable def MtM (X : Cx) (id : String) (r : V → List V → Hp → VK → Prop) : Prop :=
  ∀ (pins : List (Addr × Obj)) (s : Shared) (σ : St) (H : Hp) (x : V) (xs : List V) (v : Value) (us : List Value) (Q : VK), Inv X pins σ H s → RelV x v → Vals xs us → r x xs H Q →
    wpAny (model X.prog X.w) X.A (call (.builtin id) (v :: us)) (EP X pins σ Q) X.xe s
theorem Vals.one : ∀ {x : V} {us : List Value}, Vals [x] us → ∃ u, us = [u] ∧ RelV x u
  | _, _, .cons r .nil => ⟨_, rfl, r⟩
theorem Vals.zero : ∀ {us : List Value}, Vals [] us → us = []
  | _, .nil => rfl
theorem Vals.dropLast {xs : List V} {us : List Value} (h : Vals xs us) : Vals xs.dropLast us.dropLast := by
  induction h with
  | nil => exact .nil
  | cons r t ih =>
    cases t with
    | nil => exact .nil
    | cons q t' => exact .cons r ih
theorem Vals.rep {xs : List V} {us : List Value} (h : Vals xs us) : ∀ k : Nat, Vals (List.replicate k xs).flatten (List.replicate k us).flatten
  | 0 => .nil
  | k + 1 => by
    rw [List.replicate_succ, List.replicate_succ, List.flatten_cons, List.flatten_cons]
    exact Vals.append h (Vals.rep h k)
theorem erase_last {α : Type} (l : List α) : l.eraseIdx (l.length - 1) = l.dropLast := by
  induction l with
  | nil => rfl
  | cons a r ih =>
    cases r with
    | nil => rfl
    | cons b r =>
      have e : (a :: b :: r).length - 1 = ((b :: r).length - 1) + 1 := by
        have h1 : (a :: b :: r).length = r.length + 2 := rfl
        have h2 : (b :: r).length = r.length + 1 := rfl
        omega
      rw [e, List.eraseIdx_cons_succ, ih]
      all_goals rfl
theorem foldl_rep (its : List Value) : ∀ (k : Nat) (acc : List Value),
    List.foldl (fun x1 x2 => x1 ++ x2) acc.toArray (List.replicate k its.toArray) = (acc ++ (List.replicate k its).flatten).toArray
  | 0, acc => by simp
  | k + 1, acc => by
    have e : acc.toArray ++ its.toArray = (acc ++ its).toArray := by simp
    have e2 : (acc ++ its) ++ (List.replicate k its).flatten = acc ++ (List.replicate (k + 1) its).flatten := by
      rw [List.replicate_succ, List.flatten_cons, List.append_assoc]
    rw [← e2, ← foldl_rep its k (acc ++ its), ← e, List.replicate_succ, List.foldl_cons]
section
variable {X : Cx} {pins : List (Addr × Obj)} {σ : St} {H : Hp} {s : Shared} {l b : Addr} {xs ys zs : List V}
theorem Inv.lset {its its' : List Value} {n : Nat} {f : Array Value → Array Value} {t' : Nat} (I : Inv X pins σ H s) (hH : H l = some (.lst xs))
    (e : s.heap.get? l = some { cls := .type "list", data := .seq its.toArray n }) (hf : f its.toArray = its'.toArray) (hv : Vals ys its') (hz : ys.length ≤ sizeLine) :
    Inv X pins σ (upd H l (.lst ys)) { s with heap := s.heap.update l (Obj.mapSeq f), toks := t' } := by
  have q := PySem.IsL.update e f
  rw [hf] at q
  refine I.write (x := l) (e := l) (by rw [hH]; exact trivial) (.inl rfl) (fun b' u hb hu => (Heap.get?_update_other s.heap (Obj.mapSeq f) (Ne.symm hb)).trans hu) ⟨_, q⟩ ?_
  exact ⟨hz, its', _, hv, q⟩
theorem Inv.lnew {its : List Value} {t' : Nat} (I : Inv X pins σ H s) (hv : Vals ys its) (hz : ys.length ≤ sizeLine) :
    Inv X pins σ (upd H s.heap.objs.size (.lst ys)) { s with heap := s.heap.push { cls := .type "list", data := .seq its.toArray }, toks := t' } :=
  I.laid (fun _ _ q => Heap.get?_push_of_some _ q) (Nat.le_refl _) ⟨hz, its, 0, hv, Heap.get?_push_size _ rfl⟩
theorem Inv.fresh (I : Inv X pins σ H s) : H s.heap.objs.size = none := I.hok.fresh (Nat.le_refl _)
theorem Inv.lstM (I : Inv X pins σ H s) (hH : H l = some (.lst xs)) : xs.length ≤ sizeLine ∧ ∃ (its : List Value) (n : Nat), Vals xs its ∧ xs.length = its.length ∧ s.heap.get? l = some { cls := .type "list", data := .seq its.toArray n } := by
  obtain ⟨z, its, n, r, e⟩ := I.hok l _ hH
  exact ⟨z, its, n, r, r.length, e⟩
theorem notLongL {n : Nat} (h : n ≤ sizeLine) : Builtin.List.listTooLong n = false := by
  unfold Builtin.List.listTooLong
  exact decide_eq_false (by omega)
end
section
variable {X : Cx}
noncomputable def rAppend : V → List V → Hp → VK → Prop := fun x vs H Q => ∃ l xs y, x = .ref l ∧ vs = [y] ∧ H l = some (.lst xs) ∧ xs.length < sizeLine ∧ Q .non (upd H l (.lst (xs ++ [y])))
theorem mt_append : MtM X "list.append" rAppend := by
  intro pins s σ H x vs v us Q I rx rv h
  obtain ⟨l, xs, y, rfl, rfl, hH, hz, q⟩ := h
  cases rx
  obtain ⟨u, rfl, ru⟩ := rv.one
  obtain ⟨z, its, n, r, hl, e⟩ := I.lstM hH
  refine call_meets F.slot_list_append ⟨_, e, rfl⟩ F.entry_list_append (F.args_list_append_2 _ _) (PySem.list_append l its.toArray n u (by rw [List.size_toArray]; omega)) ⟨e, ?_⟩
  refine ⟨.non, _, I.lset (its' := its ++ [u]) hH e (by simp) (r.append (.cons ru .nil)) ?_, rfl, q⟩
  rw [List.length_append, List.length_singleton]
  omega
noncomputable def rExtend : V → List V → Hp → VK → Prop := fun x vs H Q => ∃ l b xs zs, x = .ref l ∧ vs = [.ref b] ∧ H l = some (.lst xs) ∧ H b = some (.lst zs) ∧ xs.length + zs.length ≤ sizeLine ∧ Q .non (upd H l (.lst (xs ++ zs)))
theorem mt_extend : MtM X "list.extend" rExtend := by
  intro pins s σ H x vs v us Q I rx rv h
  obtain ⟨l, b, xs, zs, rfl, rfl, hH, hB, hz, q⟩ := h
  cases rx
  obtain ⟨u, rfl, ru⟩ := rv.one
  cases ru
  obtain ⟨z, its, n, r, hl, e⟩ := I.lstM hH
  obtain ⟨z2, its2, n2, r2, hl2, e2⟩ := I.lstM hB
  have hsz : its.toArray.size + its2.toArray.size ≤ sizeLine := by rw [List.size_toArray, List.size_toArray]; omega
  have hlong : ¬ (!its.toArray.isEmpty && Builtin.List.listTooLong (its.toArray.size + its2.toArray.size)) = true := by
    rw [notLongL hsz, Bool.and_false]
    exact Bool.false_ne_true
  refine call_meets F.slot_list_extend ⟨_, e, rfl⟩ F.entry_list_extend (F.args_list_extend_2 _ _)
    (AutoSeq1.list_extend_list_list_0 l its.toArray n b its2.toArray n2 hlong (by rw [List.size_toArray]; omega) (by omega)) ⟨e, e2, ?_⟩
  refine ⟨.non, _, I.lset (its' := its ++ its2) hH e (by simp) (r.append r2) ?_, rfl, q⟩
  rw [List.length_append]
  omega
noncomputable def rPop : V → List V → Hp → VK → Prop := fun x vs H Q => ∃ l xs y, x = .ref l ∧ vs = [] ∧ H l = some (.lst xs) ∧ xs[xs.length - 1]? = some y ∧ Q y (upd H l (.lst xs.dropLast))
theorem mt_pop : MtM X "list.pop" rPop := by
  intro pins s σ H x vs v us Q I rx rv h
  obtain ⟨l, xs, y, rfl, rfl, hH, hy, q⟩ := h
  cases rx
  have hus := rv.zero
  subst hus
  obtain ⟨z, its, n, r, hl, e⟩ := I.lstM hH
  obtain ⟨u, hu, ru⟩ := r.get hy
  have hy' : its.toArray[its.toArray.size - 1]? = some u := by
    show its.toArray[its.length - 1]? = some u
    rw [← Array.getElem?_toList, ← hl]
    exact hu
  refine call_meets F.slot_list_pop ⟨_, e, rfl⟩ F.entry_list_pop (F.args_list_pop_1 _) (MeetsSeq.list_pop_last l its.toArray n u hy' (by rw [List.size_toArray]; omega)) ⟨e, ?_⟩
  refine ⟨y, _, I.lset (its' := its.dropLast) hH e ?_ r.dropLast ?_, ru, q⟩
  · show its.toArray.eraseIdxIfInBounds (its.toArray.size - 1) = its.dropLast.toArray
    rw [List.size_toArray, List.eraseIdxIfInBounds_toArray, erase_last]
  · rw [List.length_dropLast]
    omega
noncomputable def rCat : R2 := fun x y H Q => ∃ l b xs zs, x = .ref l ∧ y = .ref b ∧ H l = some (.lst xs) ∧ H b = some (.lst zs) ∧ xs.length + zs.length ≤ sizeLine ∧ ∀ p, H p = none → Q (.ref p) (upd H p (.lst (xs ++ zs)))
theorem op_cat : OpR X (binaryOp .Add) rCat := by
  intro pins s σ H x y v u Q I rx ry h
  obtain ⟨l, b, xs, zs, rfl, rfl, hH, hB, hz, q⟩ := h
  cases rx
  cases ry
  obtain ⟨z, its, n, r, hl, e⟩ := I.lstM hH
  obtain ⟨z2, its2, n2, r2, hl2, e2⟩ := I.lstM hB
  refine PySem.P.add_list e e2 ?_ (by rw [List.size_toArray, List.size_toArray]; omega)
  have ea : its.toArray ++ its2.toArray = (its ++ its2).toArray := by simp
  rw [ea]
  exact ⟨.ref _, _, I.lnew (t' := s.toks) (r.append r2) (by rw [List.length_append]; omega), rfl, q _ I.fresh⟩
noncomputable def rRep : R2 := fun x y H Q => ∃ l k xs, x = .ref l ∧ y = .int k ∧ H l = some (.lst xs) ∧ -(2 ^ 63) ≤ k ∧ k < 2 ^ 63 ∧ xs.length * k.toNat ≤ sizeLine ∧
  ∀ p, H p = none → Q (.ref p) (upd H p (.lst (List.replicate k.toNat xs).flatten))
theorem len_rep {α : Type} (xs : List α) (k : Nat) : (List.replicate k xs).flatten.length = k * xs.length := by
  induction k with
  | zero => simp
  | succ k ih => rw [List.replicate_succ, List.flatten_cons, List.length_append, ih, Nat.succ_mul, Nat.add_comm]
theorem op_rep : OpR X (binaryOp .Mult) rRep := by
  intro pins s σ H x y v u Q I rx ry h
  obtain ⟨l, k, xs, rfl, rfl, hH, h1, h2, hz, q⟩ := h
  cases rx
  obtain ⟨t, rfl⟩ := ry
  obtain ⟨z, its, n, r, hl, e⟩ := I.lstM hH
  have hlen : its.toArray.size * k.toNat ≤ sizeLine := by rw [List.size_toArray, ← hl]; exact hz
  have hcap : ¬ its.toArray.size * k.toNat > (2 ^ 63 - 1) / 8 := by
    have : (sizeLine : Nat) ≤ (2 ^ 63 - 1) / 8 := by decide
    omega
  have hfit : ¬ (!Builtin.List.listFitsIndex k) = true := by
    rw [fitsIndex_both h1 h2]
    exact Bool.false_ne_true
  have hlong : ¬ Builtin.List.listTooLong (its.toArray.size * k.toNat) = true := by
    rw [notLongL hlen]
    exact Bool.false_ne_true
  have hnew : List.foldl (fun x1 x2 => x1 ++ x2) #[] (List.replicate (if its.toArray.isEmpty = true then 0 else k.toNat) its.toArray) = (List.replicate k.toNat its).flatten.toArray := by
    have f0 : ∀ m : Nat, List.foldl (fun x1 x2 => x1 ++ x2) #[] (List.replicate m its.toArray) = (List.replicate m its).flatten.toArray := fun m => by
      have := foldl_rep its m []
      rw [List.nil_append] at this
      exact this
    rw [f0]
    cases its with
    | nil => simp
    | cons a r' => rw [if_neg (by simp)]
  refine wpAny_binaryOp_repeat_ref (T := "list") (U := "int") (by decide) ⟨_, e, rfl⟩ (fun s' => typeIs_int s' k t) noFill_list_mul F.fills_int_mul F.slot_int_rmul repeat_list F.slot_int_index.lookup
    (call_meets F.slot_int_rmul (typeIs_int s k t) F.entry_int_rmul (F.args_int_rmul_2 _ _) (int___rmul___int_list k t l its.toArray n)
      ⟨e, rfl, ⟨_, e, rfl⟩, call_meets F.slot_list_mul ⟨_, e, rfl⟩ F.entry_list_mul (F.args_list_mul_2 _ _) (AutoListH.list___mul___list_int_3 l its.toArray n k t hfit hcap hlong) ⟨e, ?_⟩⟩)
  rw [hnew]
  exact ⟨.ref _, _, I.lnew (t' := s.toks) (r.rep k.toNat) (by rw [len_rep, Nat.mul_comm]; exact hz), rfl, q _ I.fresh⟩
end
section
variable {prog : Program} {w : World} {A : Around} {E : Value → Shared → Prop} {s : Shared}
set_option maxRecDepth 100000 in
end
section
variable {X : Cx}
end
end L2
namespace Att
open PySem PySem.W PySem.Calls PyProof.Rows
theorem ints_of_wellAll {P : Params} {h : Heap} : ∀ (ns : List Int) (vs : List Value), WellAll P h vs (ns.map WData.int) → IntsAre vs ns := by
  intro ns
  induction ns with
  | nil =>
    intro vs w
    rw [List.map_nil] at w
    cases w
    exact .nil
  | cons n ns ih =>
    intro vs w
    rw [List.map_cons] at w
    cases w with
    | cons a b =>
      cases a
      exact .cons _ _ (ih _ b)
theorem script_of {l : OpenLaw} {n : Nat} (hn : l.most = some n) {P : Params} {h : Heap} {args : List WData} {vals : List Value}
    (hpre : l.row.toRowW.claim.pre args = true) (hwl : WellAll P h vals args) :
    ∃ a vs ns, vals = [Value.ref a] ∧ args = [WData.list (ns.map WData.int)] ∧ h.get? a = some { cls := .type "list", data := .seq vs.toArray } ∧ IntsAre vs ns ∧ ns.length ≤ n := by
  have hsh : WShape.hasAll [] args [.list .int] = true := (pre_splitW hpre).1
  have hc : l.pre.holds [] { args := args } = true := (pre_splitW hpre).2
  obtain ⟨d, r, rfl, h1, h2⟩ := hasAllW_cons hsh
  obtain rfl := hasAllW_nil h2
  obtain ⟨xs, rfl, h3⟩ := hasW_list h1
  obtain ⟨ns, rfl⟩ := items_int h3
  have hlen : ns.length ≤ n := by
    unfold OpenLaw.pre at hc
    have h4 : (WTm.not (.lt (.lit (.int (n : Int))) (.len (.arg 0)))).holds [] { args := [.list (ns.map .int)] } = true := by
      have h4 := (holds_andW hc).1
      rw [hn] at h4
      exact h4
    have h5 := condW_of h4 (w_not (w_lt w_lit (w_len_list (w_arg rfl))))
    rw [List.length_map] at h5
    refine Nat.le_of_not_lt fun q => ?_
    have q' : (n : Int) < ((ns.length : Nat) : Int) := by omega
    first
      | (rw [decide_eq_true q'] at h5; exact absurd h5 (by decide))
      | (simp at h5; omega)
  cases hwl with
  | cons w1 w2 =>
    cases w2
    cases w1 with
    | list ho hall => exact ⟨_, _, ns, rfl, rfl, ho, ints_of_wellAll ns _ hall, hlen⟩
theorem post_true (l : OpenLaw) (args : List WData) : l.row.toRowW.claim.post args (.bool true) args = true :=
  postW_of (r := l.row.toRowW) (X := (true == true))
    (show WShape.has [] (.bool true) .bool = true by first | rfl | decide | simp [WShape.has, WShape.arms, WShape.armsAll])
    (show (WTm.eq .res (.lit (.bool true))).value [] { args := args, res := some (.bool true), after := args } = some (.bool (true == true)) from w_eq_bool (w_res rfl) w_lit) rfl
theorem attach_call {l : OpenLaw} {n : Nat} {q : Program} {loose : List Str} {XP : (Str → Option Value) → Heap → Prop} {YP : World → Heap → Prop} {d : DefRec}
    (hn : l.most = some n) (hdf : d.params.defaults = [])
    (call : ∀ (w : World) (s₀ s₁ : Shared) (mg mb : Str → Option Value) (fa : Addr) (o : Obj) (pm cd doc : Value) (a : Addr) (vs : List Value) (ns : List Int),
      Ground q loose [] XP w s₀ mg mb s₁.heap → YP w s₁.heap →
      s₁.heap.get? fa = some o → o.data = .func (docDef d.name d.params d.body d.scope pm cd doc) → s₁.heap.CodeRec cd d.name → mg d.name = some (.ref fa) →
      s₁.heap.get? a = some { cls := .type "list", data := .seq vs.toArray } → IntsAre vs ns → ns.length ≤ n → s₁.gens = #[] →
      codeAny (model l.prog w) callerA (.call (.ref fa) ⟨[.ref a], []⟩) (fun r s' => r = .ok (.ret (.bool true)) ∧ OldK s₁.heap s'.heap ∧ s'.os = s₁.os ∧ AllBare s'.gens) s₁) :
    WalkO q loose XP YP l.row.toRowW d [] (fun f vs => PySem.call f vs) := by
  intro w s₀ s₁ mg mb G Y fa o pm cd doc dV kV ho hd hcd hD hmg hg args vals as hpre hlay hrd hwl hlo
  obtain rfl : dV = .none := Dflts.none hD hdf
  obtain rfl : kV = .none := Dflts.noKw hD
  obtain ⟨a, vs, ns, rfl, rfl, hobj, hints, hlen⟩ := script_of hn hpre hwl
  refine enter_call (codeAny_mono (call w s₀ s₁ mg mb fa o pm cd doc a vs ns G Y ho (fd_plain hd) hcd hmg hobj hints hlen hg) fun r s' hq => ?_)
  obtain ⟨rfl, h2, h3, h4⟩ := hq
  exact ⟨.inl ⟨.bool true, .bool true, [], rfl, fun _ => rfl, .bool true, post_true l _, fun _ => ⟨List.Pairwise.nil, fun _ hm => (nomatch hm)⟩⟩, h2, h3, h4⟩
section
variable {prog : Program} {w : World} {A : Around} {E : Value → Shared → Prop} {s : Shared} {K : Frag}
noncomputable def ledger (h : Heap) (L d : Addr) : List (Addr × Obj) := (List.range h.objs.size).filterMap fun a => if a = L ∨ a = d then none else (h.get? a).map fun o => (a, o)
end
end Att
namespace L2
open PySem PySem.Spec PyProof.Rows
theorem vals_ints : ∀ {vs : List Value} {ns : List Int}, IntsAre vs ns → Vals (ns.map V.int) vs
  | _, _, .nil => .nil
  | _, _, .cons n t h => .cons ⟨t, rfl⟩ (vals_ints h)
noncomputable def Only (H : Hp) : Prop := ∀ b, H b = none ∨ ∃ o xs, H b = some (.frz o (.lst xs))
theorem law_call {P : Program} {w : World} {K : PySem.W.Frag} {mg mb : Str → Option Value} {CX : CXT} {k : Nat} {fa a : Addr} {fd : FuncData} {x : Str} {sp : Sp} {s₁ : Shared} {vs : List Value} {ns : List Int}
    (KX : K.In s₁.heap) (hns : s₁.heap.Ns mainGlobals mg) (hb : s₁.heap.Ns builtinsNs mb) (hbb : ∀ x : Str, x ≠ "__name__" → mb x = bootBuiltins x) (hlim : s₁.heap.NoLimit) (hg : s₁.gens = #[])
    (ha : s₁.heap.get? a = some { cls := .type "list", data := .seq vs.toArray }) (hi : IntsAre vs ns) (hl : ns.length ≤ sizeLine) (hr : Room k callerA)
    (F : ∀ base : Heap, K.In base → base.Ns mainGlobals mg → FnOk P w K mg base CX k fa fd [x] sp) (hbind : ∀ (s : Shared) (u : Value), BindsTo s fd ⟨[u], []⟩ [(x, u)])
    (hsp : ∀ H : Hp, Only H → SqL K H a (ns.map V.int) → sp [.ref a] H (fun v _ => v = .bl true) fun _ _ _ => False)
    (hCX : ∀ H e s', CX [] H s₁ (fun _ _ _ => False) e s' → False) :
    codeAny (model P w) callerA (.call (.ref fa) ⟨[.ref a], []⟩) (fun r s' => r = .ok (.ret (.bool true)) ∧ OldK s₁.heap s'.heap ∧ s'.os = s₁.os ∧ AllBare s'.gens) s₁ := by
  have rv := vals_ints hi
  have lenV := hi.length
  -- from an abstract heap in which nothing but the script may be tracked
  have core : ∀ H : Hp, Only H → SqL K H a (ns.map V.int) → HOk P w H s₁.heap → (∀ b, H b ≠ none → b = a) → (H a ≠ none → K.lookup a = none) →
      codeAny (model P w) callerA (.call (.ref fa) ⟨[.ref a], []⟩) (fun r s' => r = .ok (.ret (.bool true)) ∧ OldK s₁.heap s'.heap ∧ s'.os = s₁.os ∧ AllBare s'.gens) s₁ := by
    intro H hO hS hok hA hK
    have base_of : ∀ {b : Addr} {o : Obj}, s₁.heap.get? b = some o → H b = none → (hidT s₁.heap H).get? b = some o := fun e n => hidT_get e n
    have noA : ∀ {b : Addr} {o : Obj} {es : Array DictEntry} {ep : Nat}, s₁.heap.get? b = some o → o.data = .dict es ep → H b = none := fun {b o es ep} e d => by
      cases q : H b with
      | none => rfl
      | some u =>
        have e' : b = a := hA b (by rw [q]; simp)
        subst e'
        rw [ha] at e; cases e
        have d' : Data.seq vs.toArray _ = Data.dict es ep := d
        cases d'
    have nsK : ∀ {b : Addr} {m : Str → Option Value}, s₁.heap.Ns b m → (hidT s₁.heap H).Ns b m := fun {b m} ⟨o, es, ep, e, d, r⟩ => ⟨o, es, ep, base_of e (noA e d), d, r⟩
    have hKb : K.In (hidT s₁.heap H) := fun b o e => base_of (KX b o e) (by
      cases q : H b with
      | none => rfl
      | some u =>
        have e' : b = a := hA b (by rw [q]; simp)
        subst e'
        rw [hK (by rw [q]; simp)] at e; cases e)
    have hM : Mod K mg (hidT s₁.heap H) := ⟨hKb, nsK hns, ⟨mb, nsK hb, hbb⟩, let ⟨mc, h1, h2⟩ := hlim; ⟨mc, nsK h1, h2⟩⟩
    have e0 : Env0 P w K mg (hidT s₁.heap H) callerA [] s₁ H := ⟨rfl, hM, fun b o e => of_hidT e, Nat.le_of_eq (hidT_size _ _), trivial, fun b hb => absurd (show b ∈ ([] : List Addr) from hb) (by simp), hok, .of_eq hg⟩
    refine codeAny_mono ((F _ hKb (nsK hns)).run callerA [] s₁ H ⟨[.ref a], []⟩ [.ref a] [.ref a] _ _ hr e0 (hbind s₁ (.ref a)) (.cons rfl .nil) (hsp H hO hS)) fun r s' h => ?_
    cases r with
    | error e => exact (hCX H e s' h).elim
    | ok fl =>
      cases fl with
      | next => exact False.elim h
      | brk => exact False.elim h
      | cont => exact False.elim h
      | ret u =>
        obtain ⟨v, H', os, bare, un, hok', r', q⟩ := h
        have q' : v = .bl true := q
        subst q'
        obtain rfl : u = Value.bool true := r'
        refine ⟨rfl, OldK.of_keep fun b o e => ?_, os, bare⟩
        cases q : H b with
        | none => exact un.keep b o e q (by intro z; exact absurd (show b ∈ ([] : List Addr) from z) (by simp)) (by simp)
        | some u =>
          rcases hO b with z | ⟨ob, xs, z⟩
          · rw [q] at z; cases z
          · have z2 := un.frzs b ob _ z
            obtain ⟨e1, _⟩ := hok b _ z
            obtain ⟨e2, _⟩ := hok' b _ z2
            rw [e] at e1; cases e1
            exact e2
  cases hk : K.lookup a with
  | some o =>
    -- the script is one of the module's own objects
    have e := KX a o hk
    rw [ha] at e
    cases e
    refine core (fun _ => none) (fun _ => .inl rfl) (.inr ⟨_, vs.toArray, _, hk, rfl, rfl, rfl, by rw [List.size_toArray, lenV]; exact hl, by simpa using rv⟩) (fun b u z => by have z' : (none : Option HO) = some u := z; cases z') (fun b z => absurd rfl z) fun z => absurd rfl z
  | none =>
    refine core (fun b => if b = a then some (.frz { cls := .type "list", data := .seq vs.toArray } (.lst (ns.map V.int))) else none) (fun b => ?_) (.inl (.inr ⟨{ cls := .type "list", data := .seq vs.toArray }, if_pos rfl⟩)) (fun b u z => ?_) (fun b z => ?_) fun _ => hk
    · by_cases hb : b = a
      · exact .inr ⟨_, _, if_pos hb⟩
      · exact .inl (if_neg hb)
    · by_cases hb : b = a
      · have z' := (if_pos hb).symm.trans z
        cases z'
        subst hb
        exact ⟨ha, by rw [List.length_map]; exact hl, vs, _, rv, ha⟩
      · have z' := (if_neg hb).symm.trans z
        cases z'
    · by_cases hb : b = a
      · exact hb
      · exact absurd (if_neg hb) z
end L2
namespace L2
open PySem PySem.Spec PyProof.Rows
noncomputable abbrev KOf {K : PySem.W.Frag} {h : Heap} (_ : K.In h) : PySem.W.Frag := K
theorem walk_of {l : PySem.W.OpenLaw} {n k : Nat} {q : Program} {loose : List Str} {XP : (Str → Option Value) → Heap → Prop} {YP : World → Heap → Prop} {d : DefRec} {K : Params → PySem.W.Frag} {CX : World → CXT} {sp : World → Sp} {x : Str}
    (hn : l.most = some n) (hn2 : n ≤ sizeLine) (hdf : d.params.defaults = []) (hr : Room k callerA)
    (hY : ∀ (w : World) (h : Heap), YP w h → (K w.params).In h)
    (F : ∀ (w : World) (mg : Str → Option Value) (fa : Addr) (h : Heap), (K w.params).In h → h.Ns mainGlobals mg → mg d.name = some (.ref fa) →
      ∃ fd : FuncData, (∀ (s : Shared) (u : Value), BindsTo s fd ⟨[u], []⟩ [(x, u)]) ∧
        ∀ base : Heap, (K w.params).In base → base.Ns mainGlobals mg → FnOk l.prog w (K w.params) mg base (CX w) k fa fd [x] (sp w))
    (hsp : ∀ (w : World) (H : Hp) (a : Addr) (ns : List Int), ns.length ≤ n → Only H → SqL (K w.params) H a (ns.map V.int) → sp w [.ref a] H (fun v _ => v = .bl true) fun _ _ _ => False)
    (hCX : ∀ (w : World) (H : Hp) (s : Shared) (e : Value) (s' : Shared), CX w [] H s (fun _ _ _ => False) e s' → False) :
    PySem.W.WalkO q loose XP YP l.row.toRowW d [] (fun f vs => PySem.call f vs) := by
  refine Att.attach_call hn hdf fun w s₀ s₁ mg mb fa o pm cd doc a vs ns G Y ho hd hcd hmg hobj hints hlen hg => ?_
  have KX := hY w _ Y
  obtain ⟨fd, hb, hF⟩ := F w mg fa _ KX G.T.g hmg
  exact law_call KX G.T.g G.T.b G.T.builtins G.T.nolimit hg hobj hints (Nat.le_trans hlen hn2) hr hF hb (fun H hO hS => hsp w H a ns hlen hO hS) fun H e s' => hCX w H s₁ e s'
end L2
namespace L2
open PySem PySem.Spec PyProof.Rows
noncomputable def inClass (s : Stmt) (j : Nat) : Stmt := match s with
  | .ClassDef _ _ _ body _ _ _ _ _ _ _ => body.getD j (.Pass ⟨0, 0, 0, 0⟩)
  | _ => .Pass ⟨0, 0, 0, 0⟩
noncomputable def defArgs (s : Stmt) : Arguments := match s with
  | .FunctionDef _ a _ _ _ _ _ _ _ _ => a
  | _ => { posonlyargs := [], args := [], vararg := none, kwonlyargs := [], kw_defaults := [], kwarg := none, defaults := [] }
noncomputable def defBody (s : Stmt) : List Stmt := match s with
  | .FunctionDef _ _ b _ _ _ _ _ _ _ => b
  | _ => []
noncomputable def defScope (s : Stmt) : Scope := match s with
  | .FunctionDef _ _ _ _ _ _ sc _ _ _ => sc
  | _ => { kind := .function, names := [], isGenerator := false, isCoroutine := false }
noncomputable abbrev CX0 : CXT := fun _ _ _ _ _ _ => False
noncomputable abbrev E0 : XK := fun _ _ _ => False
structure Fun (K : PySem.W.Frag) (x qual : Str) (st : Stmt) (f : Addr) (fd : FuncData) : Prop where
  ex : ∃ (oc : Value) (od : Option Addr) (kV doc pm : Value) (an : Option Addr) (cdv ct : Value) (osl : Array (Option Value)),
    fd = PySem.W.fnOf x qual (defArgs st) (defBody st) (defScope st) .none kV doc pm an cdv ct ∧ K.lookup f = some ⟨oc, od, .func fd, osl⟩ ∧ PySem.W.codeIn K cdv qual = true
  kp : PySem.W.keepIn K (.ref f) = true
section
variable {P : Program} {w : World} {K : PySem.W.Frag} {mg : Str → Option Value} {base : Heap}
theorem Fun.ok {x qual : Str} {st : Stmt} {f : Addr} {fd : FuncData} {N ps : List Str} {k : Nat} {sp : Sp} (F : Fun K x qual st f fd) (S : FnScope N ps (defScope st)) (len : ∀ vs H Q E, sp vs H Q E → vs.length = ps.length)
    (hbody : ∀ (cdv : Value) (A : Around) (outer : List Env) (s : Shared) (H : Hp) (vs : List V) (Q : VK) (E : XK), Room k (A.deeper (envOfC qual (defScope st) s.heap.objs.size f cdv)) → sp vs H Q E →
      ∃ t, PSs (cxOf CX0 P w K mg base N qual (defScope st) f cdv A outer s H E).nox (defBody st) t ∧ t { nx := fun _ H' => Q .non H', rt := Q } (start N vs) H) : FnOk P w K mg base CX0 (k + 1) f fd ps sp := by
  obtain ⟨oc, od, kV, doc, pm, an, cdv, ct, osl, rfl, lk, hcd⟩ := F.ex
  refine fn_of lk hcd S len fun A outer s H vs Q E hr hsp => ?_
  obtain ⟨t, h, q⟩ := hbody cdv A outer s H vs Q E hr hsp
  exact ⟨t, h.nox, q⟩
theorem Fun.binds {x qual : Str} {st : Stmt} {f : Addr} {fd : FuncData} {ps : List Str} (F : Fun K x qual st f fd)
    (h : ∀ (kV doc pm : Value) (an : Option Addr) (cdv ct : Value) (us : List Value), us.length = ps.length → bindArgs (PySem.W.fnOf x qual (defArgs st) (defBody st) (defScope st) .none kV doc pm an cdv ct) ⟨us, []⟩ = pure (ps.zip us)) : Binds K fd ps [] := by
  obtain ⟨oc, od, kV, doc, pm, an, cdv, ct, osl, rfl, lk, hcd⟩ := F.ex
  exact .all (h kV doc pm an cdv ct)
theorem fun_mk {x qual : Str} {st : Stmt} {f : Addr} {oc : Value} {od an : Option Addr} {osl : Array (Option Value)} {kV doc pm cdv ct : Value} (l : K.lookup f = some ⟨oc, od, .func (PySem.W.fnOf x qual (defArgs st) (defBody st) (defScope st) .none kV doc pm an cdv ct), osl⟩)
    (c : PySem.W.codeIn K cdv qual = true) (k : PySem.W.keepIn K (.ref f) = true) : Fun K x qual st f (PySem.W.fnOf x qual (defArgs st) (defBody st) (defScope st) .none kV doc pm an cdv ct) := ⟨⟨oc, od, kV, doc, pm, an, cdv, ct, osl, rfl, l, c⟩, k⟩
end
theorem hu_of {A : Around} {k : Nat} (hr : Room k A) : A.units + 1 < cLine := Nat.lt_of_le_of_lt (Nat.add_le_add_left (by decide : 1 ≤ 64) _) hr.units
section
variable {X : Cx}
theorem pv (i : Nat) {x : Str} {pos : Pos} (hN : X.N[i]? = some x := by rfl) (hv : Vis X.env.scope x := by first | exact Or.inl rfl | exact Or.inr (Or.inl rfl) | exact Or.inr (Or.inr rfl)) (hd : (x == ("__debug__" : Str)) = false := by decide)
    (hcd : (x == ("__classdict__" : Str)) = false := by decide) : PE X (.Name x pos) (tVar i) := pe_var hN hv hd hcd
end
theorem iteF {A B : Prop} (h : B) : if false = true then A else B := by
  rw [if_neg Bool.false_ne_true]
  exact h
theorem iteT {A B : Prop} (h : A) : if true = true then A else B := by
  rw [if_pos rfl]
  exact h
theorem ite2 {c A B : Prop} [Decidable c] (h1 : c → A) (h2 : ¬ c → B) : if c then A else B := by
  by_cases h : c
  · rw [if_pos h]
    exact h1 h
  · rw [if_neg h]
    exact h2 h
theorem iteNS {c A B : Prop} [Decidable c] (hc : c) (h : B) : if (!decide c) = true then A else B := by
  rw [decide_eq_true hc]
  exact iteF h
noncomputable def Same (H H' : Hp) : Prop := ∀ b o, H b = some o → H' b = some o
theorem Same.refl (H : Hp) : Same H H := fun _ _ h => h
theorem Same.trans {H H1 H2 : Hp} (a : Same H H1) (b : Same H1 H2) : Same H H2 := fun c o h => b c o (a c o h)
theorem Same.free {H H' : Hp} (e : Same H H') {l : Addr} (h : H' l = Option.none) : H l = Option.none := by
  cases q : H l with
  | none => rfl
  | some o =>
    rw [e l o q] at h
    cases h
theorem Same.seq {K : PySem.W.Frag} {H H' : Hp} {a : Addr} {xs : List V} (e : Same H H') (h : SqL K H a xs) : SqL K H' a xs := by
  rcases h with (h | ⟨o, h⟩) | h
  · exact .inl (.inl (e _ _ h))
  · exact .inl (.inr ⟨o, e _ _ h⟩)
  · exact .inr h
end L2
set_option Elab.async false
set_option linter.all false
set_option maxRecDepth 100000
set_option maxHeartbeats 4000000
namespace L2
open PySem PySem.Spec PyProof.Rows
section
variable {X : Cx}
noncomputable def CDivL (i j : Int) : Prop := 0 < j ∧ j.natAbs.log2 < 9000
theorem op_fdivL : OpR X (binaryOp .FloorDiv) (rI CDivL fun i j => .int (i / j)) := opI fun i j _ _ _ _ _ hc q => by
  have h1 : (0 : Int) < j := hc.1
  exact floordiv_int (by omega) (by rw [Int.fdiv_eq_ediv_of_nonneg i (by omega)]; exact q) (.inl (PyProof.noPylong_of_log2 hc.2))
theorem call_isinst : CallR X (.builtin "isinstance") (fun xs H Q => ∃ x c cv t b, xs = [x, c] ∧ (∀ u, RelV c u → u = cv) ∧ TyOf X.K H x t ∧ PySem.W.kitOne X.K t cv = some b ∧ Q (.bl b) H) := by
  intro pins s σ H xs us Q I r h
  obtain ⟨x, c, cv, t, b, rfl, hcv, ty, e, q⟩ := h
  obtain ⟨u, w', rfl, r1, r2⟩ := vals2 r
  rw [hcv w' r2]
  exact isinst_ok I r1 ty e fun tk => ⟨.bl b, H, I.tok _, rfl, q⟩
theorem relTy {n : String} : ∀ u, RelV (.ty n) u → u = Value.type n := fun _ h => h
noncomputable def Its (x : Str) : It := ⟨fun i _ => i < x.cps.size, fun i H v H' => H' = H ∧ ∃ c, x.cps[i]? = some c ∧ v = .str ⟨#[c]⟩, fun i _ => i = x.cps.size⟩
theorem turn_str {P : Program} {w : World} {K : PySem.W.Frag} {tg : Expr} (it : Addr) (ty : String) (x : Str) (t : Tok)
    (W : ∀ A : Around, A.handled = none → Walks P w A it [it] [it] x.cps.size (SignAt x) (fun i h => h.IsStrIter it ty x t i))
    (hty : ["enumerate", "zip", "dict_itemiterator", "dict_reverseitemiterator", "odict_iterator", "itertools.zip_longest", "itertools.pairwise"].contains ty = false)
    (hself : ∀ (A : Around) (i : Nat) (s : Shared) (Q : Value → Shared → Prop) (E : Value → Shared → Prop), s.heap.IsStrIter it ty x t i → Q (.ref it) s → wpAny (model P w) A (pyIter (.ref it)) Q E s) :
    Turn P w K tg (Its x) [it] it (fun i h => h.IsStrIter it ty x t i) where
  mem := by simp
  obj := fun i h st b hb => by
    have e : b = it := by simpa using hb
    subst e
    obtain ⟨o, e, c, d⟩ := st
    exact ⟨o, e, fun v z => by rw [d] at z; cases z⟩
  keep := fun i h h' st k => by
    obtain ⟨o, e, c, d⟩ := st
    exact ⟨o, k it (by simp) o e, c, d⟩
  item := by
    intro X hP hw hK hc i pins s σ H E I hf st hg
    subst hP hw hK
    obtain ⟨f0, f1, f2, f3, f4, f5⟩ := hf it (by simp)
    refine (W X.A (I.ok.hd hc)).item i s _ _ hg st fun v h' tk hv st' kk => ?_
    obtain ⟨c, u, ec, rfl⟩ := hv
    have I1 : Inv X pins σ H { s with heap := h', toks := tk } := I.turned (fun b o hb e => kk b o (by simpa using hb) e) f0 f1 f3 f4 f5
    obtain ⟨o, e, cl, d⟩ := id st'
    exact ⟨_, rfl, go_of (s := { s with heap := h', toks := tk }) e cl d hty ⟨.str ⟨#[c]⟩, H, I1, ⟨_, rfl⟩, ⟨rfl, c, ec, rfl⟩, st', fun b hb => (hf b hb).1⟩⟩
  done := by
    intro X hP hw hK hc i pins s σ H E I hf st hg
    subst hP hw hK
    obtain ⟨f0, f1, f2, f3, f4, f5⟩ := hf it (by simp)
    have hi : i = x.cps.size := hg
    subst hi
    exact (W X.A (I.ok.hd hc)).done s _ _ st fun h' tk kk => ⟨rfl, I.turned (fun b o hb e => kk b o (by simpa using hb) e) f0 f1 f3 f4 f5⟩
  self := hself
noncomputable def iStr (tl : TE) : TI := fun σ H R => tl σ H fun v H1 => ∃ x, v = .str x ∧ R (Its x) H1
theorem pi_str {tg l : Expr} {tl : TE} (hl : PE X l tl) : PI X tg l (iStr tl) := by
  intro pins s σ H R I h
  refine thn (hl pins s σ H _ I h) fun v s1 ⟨y, H1, I1, r1, q1⟩ => ?_
  obtain ⟨x, e, q⟩ := q1
  subst e
  obtain ⟨t, rfl⟩ := r1
  have fin : ∀ (o : Obj) (ty : String), (s1.heap.push o).IsStrIter s1.heap.objs.size ty x t 0 → Turn X.prog X.w X.K tg (Its x) [s1.heap.objs.size] s1.heap.objs.size (fun i h => h.IsStrIter s1.heap.objs.size ty x t i) →
      PIE X pins σ tg R (.ref s1.heap.objs.size) { s1 with heap := s1.heap.push o } := fun o ty st T => by
    refine ⟨s1.heap.objs.size, [s1.heap.objs.size], _, _, H1, rfl, I1.kept (t' := s1.toks) fun b o e => Heap.get?_push_of_some _ e, T, st, fun b hb => ?_, q⟩
    have e : b = s1.heap.objs.size := by simpa using hb
    subst e
    exact I1.fpOk (Nat.le_refl _) (I1.hok.fresh (Nat.le_refl _))
  cases ha : x.cps.all (· < 128)
  · exact wpAny_pyIter_wide ha (fin _ "str_iterator" ⟨_, Heap.get?_push_size _ rfl, rfl, rfl⟩ (turn_str _ _ x t (fun A' hA => Walks.strWide hA _ x t) (by decide) fun _ _ _ _ _ st h => wpAny_pyIter_striter_wide st h))
  · exact wpAny_pyIter_ascii ha (fin _ "str_ascii_iterator" ⟨_, Heap.get?_push_size _ rfl, rfl, rfl⟩ (turn_str _ _ x t (fun A' hA => Walks.strAscii hA _ x t) (by decide) fun _ _ _ _ _ st h => wpAny_pyIter_striter_ascii st h))
theorem for_str {x : Str} {g : TG} {tb : TS} {D : Ends} {σ : St} {H : Hp} (Pv : Nat → St → Hp → Prop) (h0 : Pv 0 σ H)
    (hs : ∀ i c σ H, x.cps[i]? = some c → Pv i σ H → g (.str ⟨#[c]⟩) σ H fun σ2 H2 => tb { D with nx := Pv (i + 1), ct := Pv (i + 1), bk := D.nx } σ2 H2) (hd : ∀ σ H, Pv x.cps.size σ H → D.nx σ H) :
    ∃ W : Nat → Nat → St → Hp → Prop, (∃ m, W 0 m σ H) ∧ ∀ i m σ H, W i m σ H →
      ((Its x).stop i H ∧ D.nx σ H) ∨ ((Its x).go i H ∧ ∃ N : St → Hp → Prop, (∀ σ' H', N σ' H' → ∃ m', m' < m ∧ W (i + 1) m' σ' H') ∧ ∀ v H', (Its x).yld i H v H' → g v σ H' fun σ2 H2 => tb { D with nx := N, ct := N, bk := D.nx } σ2 H2) := by
  refine ⟨fun i m σ H => m = x.cps.size - i ∧ i ≤ x.cps.size ∧ Pv i σ H, ⟨x.cps.size, by simp, Nat.zero_le _, h0⟩, ?_⟩
  rintro i m σ H ⟨rfl, hi, p⟩
  by_cases hlt : i < x.cps.size
  · refine .inr ⟨hlt, Pv (i + 1), fun σ' H' p' => ⟨x.cps.size - (i + 1), by omega, rfl, hlt, p'⟩, fun v H' y => ?_⟩
    obtain ⟨e, c, ec, ev⟩ := y
    subst e ev
    exact hs i c σ _ ec p
  · have e : i = x.cps.size := by omega
    subst e
    exact .inl ⟨rfl, hd σ H p⟩
noncomputable def rSlS : V → Option Int → Option Int → Hp → VK → Prop := fun v lo hi H Q => ∃ x, v = .str x ∧ x.length ≤ sizeLine ∧ Q (.str (Txt.slice x lo hi)) H
theorem sl_str : SlR X rSlS := by
  intro pins s σ H v vv vl vu lo hi sl Q I rx hs pl pu h
  obtain ⟨x, rfl, hz, q⟩ := h
  obtain ⟨t, rfl⟩ := rx
  refine ⟨"str", _, F.slot_str_getitem.lookup, typeIs_str _ _ _, ?_⟩
  have fin : ∀ (l u : Option (Int × Tok)), s.heap.IsSlice sl l u none → l.map (·.1) = lo → u.map (·.1) = hi → wpAny (model X.prog X.w) X.A (getItem (.str x t) (.ref sl)) (EP X pins σ Q) X.xe s := fun l u hsl el eu => by
    refine wpAny_getItem_str_slice (l := l) (u := u) (st := none) hsl rfl ?_
    subst el eu
    exact post_val_or_str ⟨Nat.le_trans (Txt.slice_le x _ _) hz, fun t' k => ⟨.str (Txt.slice x (l.map (·.1)) (u.map (·.1))), H, I.tok _, ⟨t', rfl⟩, q⟩⟩
  cases pl with
  | none =>
    cases pu with
    | none => exact fin none none hs rfl rfl
    | int j uj => exact fin none (some (j, uj)) hs rfl rfl
  | int i ui =>
    cases pu with
    | none => exact fin (some (i, ui)) none hs rfl rfl
    | int j uj => exact fin (some (i, ui)) (some (j, uj)) hs rfl rfl
noncomputable def rMulS : R2 := fun x y H Q => ∃ z n, x = .str z ∧ y = .int n ∧ MulOk z n ∧ Q (.str (Txt.mul z n)) H
theorem op_mul_str : OpR X (binaryOp .Mult) rMulS := by
  intro pins s σ H x y v u Q I rx ry h
  obtain ⟨z, n, rfl, rfl, hok, q⟩ := h
  obtain ⟨t, rfl⟩ := rx
  obtain ⟨t', rfl⟩ := ry
  exact SB.mul hok fun t' k => ⟨.str (Txt.mul z n), H, I.tok _, ⟨_, rfl⟩, q⟩
theorem strsAre_of {ys : List Str} : ∀ {us : List Value}, Vals (ys.map V.str) us → StrsAre us ys := by
  induction ys with
  | nil => intro us r; rw [List.map_nil] at r; cases r; exact .nil
  | cons n ns ih =>
    intro us r
    rw [List.map_cons] at r
    cases r with
    | cons h t =>
      obtain ⟨tk, rfl⟩ := h
      exact .cons n tk (ih t)
noncomputable def rJoin (K : PySem.W.Frag) : V → List V → Hp → VK → Prop := fun x vs H Q => ∃ sep p ys, x = .str sep ∧ vs = [.ref p] ∧ SqL K H p (ys.map V.str) ∧ (ys.map (·.length)).sum + ys.length * sep.length ≤ 16777216 ∧ Q (.str (Txt.join sep ys)) H
theorem mt_join : MtM X "str.join" (rJoin X.K) := by
  intro pins s σ H x xs v us Q I rx rs h
  obtain ⟨sep, p, ys, rfl, rfl, hl, hok, q⟩ := h
  obtain ⟨t, rfl⟩ := rx
  obtain ⟨u, rfl, ru⟩ := vals1 rs
  cases ru
  obtain ⟨its, r', pl, hz⟩ := I.list hl
  exact join_list pl.isList (strsAre_of r') hok fun t' k => ⟨.str (Txt.join sep ys), H, I.tok _, ⟨_, rfl⟩, q⟩
end
theorem forIn_collect {α β : Type} {l : List α} {f : α → β → Sem (ForInStep β)} (g : β → α → β) (c : β) (h : ∀ x ∈ l, ∀ c, f x c = pure (.yield (g c x))) :
    forIn l c f = pure (l.foldl g c) := by
  induction l generalizing c with
  | nil => rfl
  | cons x l ih =>
    rw [List.forIn_cons, h x List.mem_cons_self, pure_bind]
    exact ih _ fun y hy => h y (List.mem_cons_of_mem _ hy)
noncomputable def clOf (cells : List (Str × Addr)) (names : List (Str × NameKind)) (acc : List (Str × Addr)) : List (Str × Addr) :=
  names.foldl (fun cs y => if y.2 == .free then (y.1, (cells.lookup y.1).getD 0) :: cs else cs) acc
theorem closure_eq {scope : Scope} {env : Env} (h : ∀ y ∈ scope.names, y.2 = .free → ∃ c, env.cells.lookup y.1 = some c) : closureFor scope env = pure (clOf env.cells scope.names []) := by
  simp only [closureFor]
  rw [forIn_collect (fun cs y => if y.2 == .free then (y.1, (env.cells.lookup y.1).getD 0) :: cs else cs) [] fun x hx c => ?_]
  · rfl
  · obtain ⟨n, k⟩ := x
    by_cases hk : k = .free
    · subst hk
      obtain ⟨a, ea⟩ := h (n, .free) hx rfl
      have ea' : env.cells.lookup n = some a := ea
      simp only [beq_self_eq_true, if_true, cellOf, ea', pure_bind, Option.getD_some]
    · have hb : (k == NameKind.free) = false := by simpa using hk
      simp only [hb, Bool.false_eq_true, if_false]
theorem lookup_mem {α : Type} : ∀ {l : List (Str × α)} {x : Str} {c : α}, l.lookup x = some c → (x, c) ∈ l
  | [], _, _, h => by simp at h
  | (y, d) :: r, x, c, h => by
    rw [List.lookup_cons] at h
    cases hx : x == y with
    | true =>
      rw [hx] at h
      have e : x = y := by simpa using hx
      subst e
      cases h
      exact List.mem_cons_self
    | false =>
      rw [hx] at h
      exact List.mem_cons_of_mem _ (lookup_mem h)
theorem mem_lookup {α : Type} : ∀ {l : List (Str × α)} {x : Str} {c : α}, (x, c) ∈ l → ∃ d, l.lookup x = some d
  | [], _, _, h => by cases h
  | (y, d) :: r, x, c, h => by
    rw [List.lookup_cons]
    cases hx : x == y with
    | true => exact ⟨d, rfl⟩
    | false =>
      rcases List.mem_cons.mp h with e | h
      · cases e; simp at hx
      · exact mem_lookup h
theorem clOf_mem {cells : List (Str × Addr)} : ∀ {names : List (Str × NameKind)} {acc : List (Str × Addr)} {p : Str × Addr}, p ∈ clOf cells names acc ↔ p ∈ acc ∨ ((p.1, NameKind.free) ∈ names ∧ p.2 = (cells.lookup p.1).getD 0)
  | [], acc, p => by simp [clOf]
  | (n, k) :: r, acc, p => by
    show p ∈ clOf cells r (if k == .free then (n, (cells.lookup n).getD 0) :: acc else acc) ↔ _
    rw [clOf_mem (names := r)]
    by_cases hk : k = .free
    · subst hk
      simp only [beq_self_eq_true, if_true, List.mem_cons]
      constructor
      · rintro ((rfl | h) | h)
        · exact .inr ⟨.inl rfl, rfl⟩
        · exact .inl h
        · exact .inr ⟨.inr h.1, h.2⟩
      · rintro (h | ⟨h | h, e⟩)
        · exact .inl (.inr h)
        · obtain ⟨a, b⟩ := p
          cases h
          exact .inl (.inl (by rw [show b = _ from e]))
        · exact .inr ⟨h, e⟩
    · have hb : (k == NameKind.free) = false := by simpa using hk
      simp only [hb, Bool.false_eq_true, if_false, List.mem_cons]
      constructor
      · rintro (h | h)
        · exact .inl h
        · exact .inr ⟨.inr h.1, h.2⟩
      · rintro (h | ⟨h | h, e⟩)
        · exact .inl h
        · cases h; exact absurd rfl hk
        · exact .inr ⟨h, e⟩
theorem relabel_mem {scope : Scope} {env : Env} {x : Str} {k : NameKind} (h : (relabel scope env).names.lookup x = some k) : ∃ k', (x, k') ∈ scope.names ∧ (k' = k ∨ (k' = .free ∧ k = .cell)) := by
  have m := lookup_mem h
  unfold relabel at m
  obtain ⟨⟨n, k'⟩, hm, e⟩ := List.mem_map.mp m
  dsimp only at e
  split at e
  · rename_i hc
    rw [Bool.and_eq_true, Bool.and_eq_true] at hc
    have e1 : n = x := congrArg Prod.fst e
    have e2 : NameKind.cell = k := congrArg Prod.snd e
    subst e1 e2
    exact ⟨k', hm, .inr ⟨by simpa using hc.1.1, rfl⟩⟩
  · have e1 : n = x := congrArg Prod.fst e
    have e2 : k' = k := congrArg Prod.snd e
    subst e1 e2
    exact ⟨k', hm, .inl rfl⟩
noncomputable def subCx (X : Cx) (scope : Scope) (N : List Str) (cl : List (Str × Addr)) (C : Addr) (s : Shared) (H : Hp) (fp : List Addr) (xe : Value → Shared → Prop) : Cx :=
  { X with N := N, s₀ := s, H₀ := H, env := compEnvC scope cl C X.env, outer := X.stack, stack := X.stack, ex := fp, fn := fun _ => false, pn := [], xe := xe }
inductive Caps (X : Cx) (scope : Scope) : List Str → List (Option Nat) → Prop where
  | nil : Caps X scope [] []
  | own {x : Str} {N : List Str} {ix : List (Option Nat)} (r : Caps X scope N ix) : Caps X scope (x :: N) (none :: ix)
  | cap {x : Str} {j : Nat} {N : List Str} {ix : List (Option Nat)} (h1 : X.N[j]? = some x) (h2 : X.env.kindOf x = some .cell) (h3 : (relabel scope X.env).names.lookup x = some .cell) (r : Caps X scope N ix) : Caps X scope (x :: N) (some j :: ix)
noncomputable def capS (ix : List (Option Nat)) (σ : St) : St := ix.map fun o => match o with
  | none => none
  | some j => (σ[j]?).getD none
theorem Caps.get {X : Cx} {scope : Scope} {σ : St} : ∀ {N : List Str} {ix : List (Option Nat)}, Caps X scope N ix → ∀ (i : Nat) (x : Str) (v : V), N[i]? = some x → (capS ix σ)[i]? = some (some v) →
    ∃ j : Nat, X.N[j]? = some x ∧ σ[j]? = some (some v) ∧ X.env.kindOf x = some .cell ∧ (relabel scope X.env).names.lookup x = some .cell
  | _, _, .nil, i, x, v, h, _ => by simp at h
  | _, _, .own r, 0, x, v, _, h => by simp [capS] at h
  | _, _, .own r, i + 1, x, v, h1, h2 => r.get i x v (by simpa using h1) (by simpa [capS] using h2)
  | _, _, .cap (j := j) e1 e2 e3 r, 0, x, v, h1, h2 => by
    simp at h1
    subst h1
    refine ⟨j, e1, ?_, e2, e3⟩
    simp only [capS, List.map_cons, List.getElem?_cons_zero, Option.some.injEq] at h2
    cases q : σ[j]? with
    | none => rw [q] at h2; cases h2
    | some o => rw [q] at h2; simp only [Option.getD_some] at h2; rw [h2]
  | _, _, .cap e1 e2 e3 r, i + 1, x, v, h1, h2 => r.get i x v (by simpa using h1) (by simpa [capS] using h2)
theorem Caps.length {X : Cx} {scope : Scope} {N : List Str} {ix : List (Option Nat)} (h : Caps X scope N ix) : ix.length = N.length := by
  induction h with
  | nil => rfl
  | own _ ih => simp [ih]
  | cap _ _ _ _ ih => simp [ih]
noncomputable def Ext (a b : St) : Prop := b.length = a.length ∧ ∀ (i : Nat) v, a[i]? = some (some v) → b[i]? = some (some v)
theorem Ext.set {a : St} {i : Nat} {v : V} (h : a[i]? = some none) : Ext a (a.set i (some v)) := by
  refine ⟨by simp, fun j w e => ?_⟩
  by_cases hj : j = i
  · subst hj; rw [h] at e; cases e
  · rw [List.getElem?_set_ne (Ne.symm hj)]; exact e
theorem Ext.trans {a b c : St} (h : Ext a b) (h' : Ext b c) : Ext a c := ⟨h'.1.trans h.1, fun i v e => h'.2 i v (h.2 i v e)⟩
noncomputable def PTs (X : Cx) (ifs : List Expr) (t : TT) : Prop :=
  ∀ (pins : List (Addr × Obj)) (s : Shared) (σ : St) (H : Hp) (Q : Bool → Hp → Prop), Inv X pins σ H s → t σ H Q →
    wpAny (model X.prog X.w) X.A (forIn ifs true fun c r => if r = true then do let ok ← isTrue c X.env (eval c X.env); pure (ForInStep.yield ok) else pure (ForInStep.yield r)) (TP X pins σ Q) X.xe s
noncomputable def ttNil : TT := fun _ H Q => Q true H
theorem pts_nil {X : Cx} : PTs X [] ttNil := fun pins s σ H Q I h => wpAny_tests_nil ⟨H, I, h⟩
theorem pts_one {X : Cx} {c : Expr} {t : TT} (h : PT X c t) : PTs X [c] t := fun pins s σ H Q I q => wpAny_tests_one (h pins s σ H Q I q)
noncomputable def CompW (J : It) (g : TG) (tt : TT) (te : TE) (σ0 : St) (D : Addr) (Q : VK) (H1 : Hp) : Prop := ∃ W : Nat → Nat → List V → Hp → Prop, (∃ m, W 0 m [] (upd H1 D (.lst []))) ∧ ∀ i m ys H, W i m ys H →
  (J.stop i H ∧ Q (.ref D) H) ∨ (J.go i H ∧ ∀ x H', J.yld i H x H' → g x σ0 H' fun σ2 H2 => Ext σ0 σ2 ∧ tt σ2 H2 fun b H3 =>
    if b = true then te σ2 H3 fun v H4 => H4 D = some (.lst ys) ∧ ys.length < sizeLine ∧ ∃ m', m' < m ∧ W (i + 1) m' (ys ++ [v]) (upd H4 D (.lst (ys ++ [v]))) else ∃ m', m' < m ∧ W (i + 1) m' ys H3)
noncomputable def tComp (wi : TI) (g : TG) (tt : TT) (te : TE) (ix : List (Option Nat)) : TE := fun σ H Q => wi σ H fun J H1 => ∀ D, H1 D = none → CompW J g tt te (capS ix σ) D Q H1
section
variable {prog : Program} {w : World} {A : Around} {R : Result → Shared → Prop} {s : Shared}
theorem comp_loop {elt target iter : Expr} {ifs : List Expr} {scope : Scope} {pos : Pos} {it acc : Value} {env : Env} (I : Nat → Shared → Prop)
    (turn : ∀ n s, I n s → wpAny (model prog w) A (pyNext it) (fun r s₁ => match r with
      | none => R (.ok .next) s₁
      | some v => wpAny (model prog w) A (letOwnedTupleGo target it v) (fun _ s₁' => wpAny (model prog w) A (assign target env v) (fun _ s₂ =>
          wpAny (model prog w) A (forIn ifs true fun c r => if r = true then do let ok ← isTrue c env (eval c env); pure (ForInStep.yield ok) else pure (ForInStep.yield r)) (fun ok s₃ =>
            if ok = true then wpAny (model prog w) A (eval elt env) (fun x s₄ =>
              wpAny (model prog w) A (call (.builtin "list.append") [acc, x]) (fun _ s₅ => ∃ m, m < n ∧ I m s₅) (notedBy (model prog w) A env fun e s' => R (.error e) s') s₄) (notedBy (model prog w) A env fun e s' => R (.error e) s') s₃
            else ∃ m, m < n ∧ I m s₃) (notedBy (model prog w) A env fun e s' => R (.error e) s') s₂) (notedBy (model prog w) A env fun e s' => R (.error e) s') s₁') (notedBy (model prog w) A env fun e s' => R (.error e) s') s₁) (notedBy (model prog w) A env fun e s' => R (.error e) s') s)
    (n : Nat) (h : I n s) : codeAny (model prog w) A (.compLoop (.ListComp elt [⟨target, iter, ifs, 0⟩] scope pos) 0 it acc env) R s := by
  refine codeAny_loop rfl I (fun n s hI => ?_) n h
  show wpAny _ A ((compTurn (.ListComp elt [⟨target, iter, ifs, 0⟩] scope pos) 0 it acc env).onRaise (fun x => do noteFrame x env; theTreesLotGoes x)) _ _ s
  refine wpAny_noted ?_
  rw [compTurn_list]
  refine wpAny_bind (wpAny_standAt (wpAny_bind (wpAny_mono (turn n s hI) (fun r s₁ h₁ => ?_) fun _ _ h' => h')))
  cases r with
  | none => exact wpAny_pure h₁
  | some v =>
    refine wpAny_bind (wpAny_mono h₁ (fun _ s₁' h₁' => ?_) fun _ _ h' => h')
    refine wpAny_bind (wpAny_mono h₁' (fun _ s₂ h₂ => wpAny_bind (wpAny_mono h₂ (fun ok s₃ h₃ => ?_) fun _ _ h' => h')) fun _ _ h' => h')
    cases ok with
    | false => exact wpAny_pure ⟨rfl, h₃⟩
    | true =>
      exact wpAny_bind (wpAny_bind (wpAny_mono h₃ (fun x s₄ h₄ => wpAny_bind (wpAny_mono h₄ (fun _ s₅ h₅ => wpAny_pure (wpAny_pure ⟨rfl, h₅⟩)) fun _ _ h' => h')) fun _ _ h' => h'))
end
section
variable {X : Cx}
noncomputable def noCell (sc : Scope) : Bool := sc.names.all fun y => y.2 != .cell
noncomputable def freeOk (sc : Scope) (env : Env) : Bool := sc.names.all fun y => y.2 != .free || env.kindOf y.1 == some .cell
noncomputable def namesOk (sc : Scope) : Bool := sc.names.all fun y => y.2 != .local || sc.names.lookup y.1 == some .local
structure BlockEnd (X : Cx) (pins : List (Addr × Obj)) (σ : St) (H : Hp) (C : Addr) (s : Shared) : Prop where
  inv : Inv X pins σ H s
  ns : ∃ m, s.heap.Ns C m
  free : H C = none
  loc : C ≠ X.env.locals
  young : X.s₀.heap.objs.size ≤ C
  cell : ∀ x c, X.env.cells.lookup x = some c → c ≠ C
  pin : ∀ p ∈ X.pn ++ pins, p.1 ≠ C
theorem BlockEnd.gone {pins : List (Addr × Obj)} {σ : St} {H : Hp} {C : Addr} {s : Shared} (B : BlockEnd X pins σ H C s) {h' : Heap} (hs : Heap.SameBut C s.heap h') : Inv X pins σ H { s with heap := h' } :=
  B.inv.turned (t' := s.toks) (it := C) (fun b o hb e => hs.extBut b o hb e) B.free B.loc (.inr B.young) B.cell B.pin
theorem comp_core {elt tg iter : Expr} {ifs : List Expr} {scope : Scope} {pos pos' : Pos} {N : List Str} {ix : List (Option Nat)} {wi : TI} {g : TG} {tt : TT} {te : TE} {use : Option (Value → Sem Unit)} {Qv : Value → Shared → Prop}
    (hc : X.calm = true) (hi : PI X tg iter wi) (hk : scope.kind = .function) (hcell0 : noCell scope = true) (hfree0 : freeOk scope X.env = true) (hnames0 : namesOk scope = true) (caps : Caps X scope N ix)
    (hg : ∀ cl C s H fp xe, PG (subCx X scope N cl C s H fp xe) tg g) (ht : ∀ cl C s H fp xe, PTs (subCx X scope N cl C s H fp xe) ifs tt) (he : ∀ cl C s H fp xe, PE (subCx X scope N cl C s H fp xe) elt te)
    (hs : ∀ x, foldedSetIterable iter X.env x = pure x)
    {pins : List (Addr × Obj)} {s : Shared} {σ : St} {H : Hp} {Q : VK} (I : Inv X pins σ H s) (h : tComp wi g tt te ix σ H Q)
    (fin : ∀ (C D : Addr) (H6 : Hp) (s6 : Shared), BlockEnd X pins σ H6 C s6 → Q (.ref D) H6 → compPost (model X.prog X.w) X.A X.xe use Qv (.ref D) C (.ok .next) s6) :
    wpAny (model X.prog X.w) X.A (comprehension (.ListComp elt [⟨tg, iter, ifs, 0⟩] scope pos) scope X.env pos' (newList []) false (eval iter X.env) use) Qv X.xe s := by
  have hcell : ∀ y ∈ scope.names, y.2 ≠ .cell := fun y hy e => by
    have := List.all_eq_true.mp hcell0 y hy
    rw [e] at this; exact absurd this (by decide)
  have hfree : ∀ y ∈ scope.names, y.2 = .free → X.env.kindOf y.1 = some .cell := fun y hy e => by
    have := List.all_eq_true.mp hfree0 y hy
    rw [e] at this; simpa using this
  have hnames : ∀ y ∈ scope.names, y.2 = .local → scope.names.lookup y.1 = some .local := fun y hy e => by
    have := List.all_eq_true.mp hnames0 y hy
    rw [e] at this; simpa using this
  have hcl : ∀ y ∈ scope.names, y.2 = .free → ∃ c, X.env.cells.lookup y.1 = some c := fun y hy e => I.ok.has y.1 (.inl (hfree y hy e))
  refine wpAny_comprehension_free (use := use) rfl hs (closure_eq hcl) hk hnames ?_
  generalize ecl : clOf X.env.cells scope.names [] = cl
  -- the cells of the block are the def's
  have cl1 : ∀ x c, cl.lookup x = some c → X.env.cells.lookup x = some c := fun x c e => by
    have m := lookup_mem e
    rw [← ecl] at m
    rcases clOf_mem.mp m with z | ⟨z, z'⟩
    · cases z
    · obtain ⟨a, ea⟩ := hcl _ z rfl
      have ea' : X.env.cells.lookup x = some a := ea
      have z2 : c = (X.env.cells.lookup x).getD 0 := z'
      rw [ea', Option.getD_some] at z2
      rw [ea', z2]
  have cl2 : ∀ x, (x, NameKind.free) ∈ scope.names → ∃ c, cl.lookup x = some c := fun x hx => by
    have m : (x, (X.env.cells.lookup x).getD 0) ∈ cl := by rw [← ecl]; exact clOf_mem.mpr (.inr ⟨hx, rfl⟩)
    exact mem_lookup m
  refine thn (hi pins s σ H _ I h) fun v s1 h1 => thn h1 fun itv s2 h2 => ?_
  obtain ⟨it, fp, tn, J, H2, e, I2, T, st2, f2, body⟩ := h2
  subst e
  refine wpAny_newObj_type (wpAny_newFunctionEnv hcell (by intro y hy; simp at hy) (fun h₁ hns₁ hsb₁ => ?_) hk)
  dsimp only at hns₁ hsb₁ ⊢
  have hD : H2 s2.heap.objs.size = none := I2.hok.fresh (Nat.le_refl _)
  obtain ⟨W, ⟨m0, w0⟩, turn⟩ := body _ hD
  have I3 : Inv X pins σ (upd H2 s2.heap.objs.size (.lst [])) { s2 with heap := s2.heap.push { cls := .type "list", dict := none, data := .seq ([] : List Value).toArray } } :=
    I2.laid (t' := s2.toks) (fun b o e => Heap.get?_push_of_some _ e) (Nat.le_refl _) ⟨Nat.zero_le _, [], 0, .nil, Heap.get?_push_size _ rfl⟩
  generalize hs3 : ({ s2 with heap := s2.heap.push { cls := .type "list", dict := none, data := .seq ([] : List Value).toArray } } : Shared) = s3 at I3
  have es3 : s2.heap.push { cls := .type "list", dict := none, data := .seq ([] : List Value).toArray } = s3.heap := by rw [← hs3]
  rw [es3] at hns₁ hsb₁ ⊢
  generalize hD' : s2.heap.objs.size = D at *
  generalize hH3 : upd H2 D (.lst []) = H3 at *
  have szC : s3.heap.objs.size = D + 1 := by rw [← es3, Heap.size_push, hD']
  -- what was, is
  have old : ∀ b o, s3.heap.get? b = some o → h₁.get? b = some o := fun b o e => hsb₁.extBut b o (Nat.ne_of_lt (Heap.lt_size e)) (Heap.get?_push_of_some _ e)
  have fpl : ∀ b ∈ fp, b < D := fun b hb => by
    obtain ⟨o, e, _⟩ := T.obj 0 _ st2 b hb
    rw [← hD']; exact Heap.lt_size e
  have fpD : ∀ b ∈ fp, H3 b = none := fun b hb => by
    rw [← hH3, upd_ne (Nat.ne_of_lt (fpl b hb))]; exact (f2 b hb).1
  have fstk : ∀ b ∈ fp, b ∉ frs X.stack := fun b hb z => by
    obtain ⟨_, f1, f3, _⟩ := f2 b hb
    rcases List.mem_cons.mp (I2.stkSub b z) with e | e
    · exact f1 e
    · exact f3 e
  let E' : Value → Shared → Prop := notedBy (model X.prog X.w) X.A (compEnvC scope cl s3.heap.objs.size X.env) fun e s' => compPost (model X.prog X.w) X.A X.xe use Qv (.ref D) s3.heap.objs.size (.error e) s'
  have ok' : (subCx X scope N cl s3.heap.objs.size s3 H3 fp E').Ok := by
    refine { mod := I.ok.mod, kind := ?_, glob := I.ok.glob, blt := I.ok.blt, above := Nat.le_refl _, inj := ?_, has := ?_, cab := ?_, hd := I.ok.hd, frames := I.ok.frames, stk := .inl rfl, exf := ?_, bs := I3.bs, bsz := ?_, noex := ?_, exfs := fstk, funs := I3.stack, frf := I3.stkFree }
    · show (relabel scope X.env).kind = .function
      exact hk
    · exact fun x y c e1 e2 => I.ok.inj x y c (cl1 x c e1) (cl1 y c e2)
    · intro x hx
      have hx' : (relabel scope X.env).names.lookup x = some .cell ∨ (relabel scope X.env).names.lookup x = some .free := hx
      have : (x, NameKind.free) ∈ scope.names := by
        rcases hx' with e | e
        · obtain ⟨k', hm, z | ⟨z, _⟩⟩ := relabel_mem e
          · subst z; exact absurd rfl (hcell _ hm)
          · subst z; exact hm
        · obtain ⟨k', hm, z | ⟨z, z'⟩⟩ := relabel_mem e
          · subst z; exact hm
          · cases z'
      exact cl2 x this
    · intro x c z; cases z
    · intro b hb
      refine ⟨fun z => ?_, fun x c e => (f2 b hb).2.2.2.2.1 x c (cl1 x c e)⟩
      have lt := fpl b hb
      have z' : b = s3.heap.objs.size := z
      rw [z', szC] at lt
      exact absurd lt (Nat.not_lt.mpr (Nat.le_succ D))
    · exact Nat.le_trans I3.ok.bsz I3.sz
    · intro b o e hb
      rcases (f2 b hb).2.2.2.1 with z | z
      · exact I.ok.noex b o e z
      · exact absurd (Nat.lt_of_lt_of_le (Heap.lt_size e) (Nat.le_trans I.ok.bsz z)) (Nat.lt_irrefl _)
  have I4 : ∀ tk, Inv (subCx X scope N cl s3.heap.objs.size s3 H3 fp E') [] (capS ix σ) H3 { s3 with heap := h₁, toks := tk } := fun tk => by
    refine ⟨ok', rfl, I3.bare, Un.kept old, ⟨_, hns₁, fun i x v e1 e2 e3 => ?_⟩, fun x c e => ?_, ?_, fun x c e => I3.freeC x c (cl1 x c e), fun p hp => (by cases hp), I3.hok.kept old, ?_⟩
    · obtain ⟨j, j1, j2, j3, j4⟩ := caps.get i x v e1 e2
      obtain ⟨m, hn, hl⟩ := I3.loc
      obtain ⟨u, r, l⟩ := hl j x v j1 j2 (.inr (.inl j3))
      refine ⟨u, r, .inr ⟨.inl j4, ?_⟩⟩
      rcases l with ⟨l, _⟩ | ⟨_, c, ec, hcell⟩
      · have l' : X.env.kindOf x = some .local := l
        rw [j3] at l'; cases l'
      · obtain ⟨k', hm, z | ⟨z, _⟩⟩ := relabel_mem j4
        · subst z; exact absurd rfl (‹∀ y ∈ scope.names, y.2 ≠ .cell› _ hm)
        · subst z
          obtain ⟨c', ec'⟩ := cl2 x hm
          have := cl1 x c' ec'
          rw [ec] at this; cases this
          obtain ⟨o, ho, hd⟩ := hcell
          exact ⟨c, ec', o, old _ _ ho, hd⟩
    · obtain ⟨v, o, ho, hd⟩ := I3.cell x c (cl1 x c e)
      exact ⟨v, o, old _ _ ho, hd⟩
    · exact I3.hok.fresh (Nat.le_refl _)
    · show (capS ix σ).length = N.length
      rw [← caps.length]; simp [capS]
  have st4 : tn 0 h₁ := T.keep 0 _ _ st2 fun b hb o e => old b o (by rw [← es3]; exact Heap.get?_push_of_some _ e)
  -- the block's end
  have fin6 : ∀ (s6 : Shared) (H6 : Hp), Inv (subCx X scope N cl s3.heap.objs.size s3 H3 fp E') [] (capS ix σ) H6 s6 → Q (.ref D) H6 →
      compPost (model X.prog X.w) X.A X.xe use Qv (.ref D) s3.heap.objs.size (.ok .next) s6 := fun s6 H6 I6 q => by
    obtain ⟨m, hn, _⟩ := I6.loc
    refine fin s3.heap.objs.size D H6 s6 ⟨I3.call' (s' := s6) (ch := fp) I6.os I6.base I6.hok I6.bare ?_, ⟨m, hn⟩, I6.free, ?_, I3.sz, ?_, ?_⟩ q
    · intro b hb
      obtain ⟨_, f1, _, f3, f4, f5⟩ := f2 b hb
      exact ⟨f3, f1, f4, f5⟩
    · exact Nat.ne_of_gt I3.lt
    · intro x c e z
      obtain ⟨v, o, ho, _⟩ := I3.cell x c e
      exact absurd (Heap.lt_size ho) (by rw [z]; exact Nat.lt_irrefl _)
    · intro p hp z
      exact absurd (Heap.lt_size (I3.pin p hp).1) (by rw [z]; exact Nat.lt_irrefl _)
  -- the loop
  have loop : ∀ s4 : Shared, s4 = { s3 with heap := h₁, toks := s2.toks + ([] : List (Str × Value)).length } →
      codeAny (model X.prog X.w) X.A (.compLoop (.ListComp elt [⟨tg, iter, ifs, 0⟩] scope pos) 0 (.ref it) (.ref D) (compEnvC scope cl s3.heap.objs.size X.env)) (compPost (model X.prog X.w) X.A X.xe use Qv (.ref D) s3.heap.objs.size) s4 := by
    rintro s4 rfl
    refine comp_loop (fun n s' => ∃ i ys H', Inv (subCx X scope N cl s3.heap.objs.size s3 H3 fp E') [] (capS ix σ) H' s' ∧ tn i s'.heap ∧ (∀ b ∈ fp, H' b = none) ∧ W i n ys H') ?_ m0 ⟨0, [], H3, I4 _, st4, fpD, w0⟩
    rintro n s5 ⟨i, ys, H5, I5, st5, fr5, w5⟩
    have stat : ∀ {H' : Hp}, (∀ b ∈ fp, H' b = none) → ∀ b ∈ fp, FpOk (subCx X scope N cl s3.heap.objs.size s3 H3 fp E') [] H' b := fun hn b hb => by
      refine ⟨hn b hb, fun z => ?_, fstk b hb, .inl hb, fun x c e => (f2 b hb).2.2.2.2.1 x c (cl1 x c e), fun p hp => (by cases hp)⟩
      have lt := fpl b hb
      have z' : b = s3.heap.objs.size := z
      rw [z', szC] at lt
      exact absurd lt (Nat.not_lt.mpr (Nat.le_succ D))
    rcases turn i n ys H5 w5 with ⟨stop, q⟩ | ⟨go, step⟩
    · refine thn (T.done (subCx X scope N cl s3.heap.objs.size s3 H3 fp E') rfl rfl rfl hc i [] s5 _ H5 E' I5 (stat fr5) st5 stop) fun r s6 ⟨hr, I6⟩ => ?_
      subst hr
      exact fin6 s6 H5 I6 q
    · refine thn (T.item (subCx X scope N cl s3.heap.objs.size s3 H3 fp E') rfl rfl rfl hc i [] s5 _ H5 E' I5 (stat fr5) st5 go) fun r s6 ⟨u, hr, h6⟩ => ?_
      subst hr
      refine thn h6 fun _ s7 ⟨x, H7, I7, r7, y7, st7, fr7⟩ => ?_
      have I7' := I7.pinned (stat fr7) (T.obj _ _ st7)
      refine thn (hg cl s3.heap.objs.size s3 H3 fp E' _ s7 _ H7 x u _ I7' r7 (step x H7 y7)) fun _ s8 ⟨σ8, H8, I8, ext, q8⟩ => ?_
      have again : ∀ {σ9 : St} {H9 : Hp} {s9 : Shared} {m' : Nat} {zs : List V}, Ext (capS ix σ) σ9 → Inv (subCx X scope N cl s3.heap.objs.size s3 H3 fp E') ([] ++ pinsAt fp s7.heap) σ9 H9 s9 → m' < n → W (i + 1) m' zs H9 →
          ∃ m, m < n ∧ ∃ i ys H', Inv (subCx X scope N cl s3.heap.objs.size s3 H3 fp E') [] (capS ix σ) H' s9 ∧ tn i s9.heap ∧ (∀ b ∈ fp, H' b = none) ∧ W i m ys H' := fun {σ9 H9 s9 m' zs} ex I9 hm w9 => by
        refine ⟨m', hm, i + 1, zs, H9, (I9.unpinned).weak ex.1.symm ex.2, T.keep _ _ _ st7 fun b hb o e => (I9.pin (b, o) (List.mem_append_right _ (List.mem_append_right _ (mem_pinsAt hb e)))).1, fun b hb => ?_, w9⟩
        obtain ⟨o, e, d⟩ := T.obj _ _ st7 b hb
        exact (I9.pin (b, o) (List.mem_append_right _ (List.mem_append_right _ (mem_pinsAt hb e)))).2.1
      refine thn (ht cl s3.heap.objs.size s3 H3 fp E' _ s8 σ8 H8 _ I8 q8) fun ok s9 ⟨H9, I9, q9⟩ => ?_
      cases ok with
      | false =>
        obtain ⟨m', hm, w9⟩ := q9
        exact again ext I9 hm w9
      | true =>
        refine thn (he cl s3.heap.objs.size s3 H3 fp E' _ s9 σ8 H9 _ I9 q9) fun u10 s10 ⟨v10, H10, I10, r10, hDl, hlt, m', hm, w10⟩ => ?_
        refine thn (mt_append (X := subCx X scope N cl s3.heap.objs.size s3 H3 fp E') _ s10 σ8 H10 (.ref D) [v10] (.ref D) [u10] (fun _ H' => H' = upd H10 D (.lst (ys ++ [v10]))) I10 rfl (.cons r10 .nil) ⟨D, ys, v10, rfl, rfl, hDl, hlt, rfl⟩) fun _ s11 ⟨_, H11, I11, _, e11⟩ => ?_
        subst e11
        exact again ext I11 hm w10
  exact codeAny_compStart_list (loop _ (by rw [← hs3])) (T.self _ 0 _ _ _ st4 (loop _ (by rw [← hs3])))
theorem pe_comp {elt tg iter : Expr} {ifs : List Expr} {scope : Scope} {pos : Pos} {N : List Str} {ix : List (Option Nat)} {wi : TI} {g : TG} {tt : TT} {te : TE}
    (hc : X.calm = true) (hi : PI X tg iter wi) (hk : scope.kind = .function) (hcell0 : noCell scope = true) (hfree0 : freeOk scope X.env = true) (hnames0 : namesOk scope = true) (caps : Caps X scope N ix)
    (hg : ∀ cl C s H fp xe, PG (subCx X scope N cl C s H fp xe) tg g) (ht : ∀ cl C s H fp xe, PTs (subCx X scope N cl C s H fp xe) ifs tt) (he : ∀ cl C s H fp xe, PE (subCx X scope N cl C s H fp xe) elt te)
    (hs : ∀ x, foldedSetIterable iter X.env x = pure x := by intro _; rfl) :
    PE X (.ListComp elt [⟨tg, iter, ifs, 0⟩] scope pos) (tComp wi g tt te ix) := by
  intro pins s σ H Q I h
  rw [eval_ListComp]
  refine comp_core (use := none) hc hi hk hcell0 hfree0 hnames0 caps hg ht he hs I h fun C D H6 s6 B q => ?_
  obtain ⟨m, hn⟩ := B.ns
  exact ⟨m, hn, fun h' hsb => ⟨.ref D, H6, B.gone hsb, rfl, q⟩⟩
noncomputable def tSetC (i : Nat) (te : TE) : TS := fun D σ H => te σ H fun x H1 => D.nx (σ.set i (some x)) H1
theorem ps_setComp {i : Nat} {y : Str} {py : Pos} {spos : Pos} {elt tg iter : Expr} {ifs : List Expr} {scope : Scope} {pos : Pos} {N : List Str} {ix : List (Option Nat)} {wi : TI} {g : TG} {tt : TT} {te : TE}
    (hN : X.N.Nodup) (hi' : X.N[i]? = some y) (hx : Loc X.env.scope y) (hsw : swapsWith (.ListComp elt [⟨tg, iter, ifs, 0⟩] scope pos) (some (.Name y py)) spos.line X.env = pure true)
    (hc : X.calm = true) (hi : PI X tg iter wi) (hk : scope.kind = .function) (hcell0 : noCell scope = true) (hfree0 : freeOk scope X.env = true) (hnames0 : namesOk scope = true) (caps : Caps X scope N ix)
    (hg : ∀ cl C s H fp xe, PG (subCx X scope N cl C s H fp xe) tg g) (ht : ∀ cl C s H fp xe, PTs (subCx X scope N cl C s H fp xe) ifs tt) (he : ∀ cl C s H fp xe, PE (subCx X scope N cl C s H fp xe) elt te)
    (hs : ∀ x, foldedSetIterable iter X.env x = pure x := by intro _; rfl) (hf : X.fn y = true ∨ X.env.scope.names.lookup y = some .local := by first | exact .inl rfl | exact .inr rfl | assumption) :
    PS X (.Assign [.Name y py] (.ListComp elt [⟨tg, iter, ifs, 0⟩] scope pos) spos) (tSetC i (tComp wi g tt te ix)) := by
  intro pins s σ H D I h
  rw [exec_Assign_Name_used _ _ _ _ hsw]
  refine wpAny_bind (wpAny_standAt (wpAny_bind ?_))
  show wpAny _ X.A (do let _ ← comprehension (.ListComp elt [⟨tg, iter, ifs, 0⟩] scope pos) scope X.env _ (newList []) false (eval iter X.env) (some (assign (.Name y py) X.env))) _ _ s
  refine wpAny_bind (wpAny_mono (comp_core (use := some (assign (.Name y py) X.env)) (Qv := fun _ s' => SP X pins D .next s') hc hi hk hcell0 hfree0 hnames0 caps hg ht he hs I h fun C a H6 s6 B q => ?_) (fun _ s' hq => wpAny_pure (wpAny_pure hq)) fun _ _ e => e)
  obtain ⟨m, hn⟩ := B.ns
  show wpAny _ X.A (assign (.Name y py) X.env (.ref a)) _ _ s6
  refine wpAny_assign_Name (store_ok2 B.inv hN hi' hx (v := .ref a) rfl (fun s7 I7 ⟨z, hz, hz'⟩ => ?_) hf)
  have hzC : C ≠ z := by
    rcases hz' with e | e
    · rw [e]; exact B.loc
    · exact fun w => B.cell y z e w.symm
  refine ⟨m, hn.sameBut hz hzC, fun h' hsb => ?_⟩
  have B7 : BlockEnd X pins (σ.set i (some (.ref a))) H6 C s7 := ⟨I7, ⟨m, hn.sameBut hz hzC⟩, B.free, B.loc, B.young, B.cell, B.pin⟩
  exact ⟨_, H6, B7.gone hsb, q⟩
theorem comp_list {K : PySem.W.Frag} {a : Addr} {xs : List V} {g : TG} {tt : TT} {te : TE} {σ0 : St} {H : Hp} {D : Addr} {Q : VK} (f : V → V) (hz : xs.length ≤ sizeLine) (hx : SqL K H a xs) (hD : H D = none)
    (hs : ∀ (i : Nat) (x : V) (H' : Hp) (R : VK) (R0 : Hp → Prop), xs[i]? = some x → (∀ b, b ≠ D → H' b = H b) → R (f x) H' → g x σ0 H' fun σ2 H2 => Ext σ0 σ2 ∧ tt σ2 H2 fun b H3 => if b = true then te σ2 H3 R else R0 H3)
    (hq : Q (.ref D) (upd H D (.lst (xs.map f)))) :
    CompW (Itl K a) g tt te σ0 D Q H := by
  have stays : ∀ ys : List V, SqL K (upd H D (.lst ys)) a xs := fun ys => by
    have sm : Same H (upd H D (.lst ys)) := fun b u q => by rw [upd_ne (ne_of_none q hD)]; exact q
    exact sm.seq hx
  refine ⟨fun i m ys H' => m = xs.length - i ∧ i ≤ xs.length ∧ ys = (xs.take i).map f ∧ H' = upd H D (.lst ys), ⟨xs.length, by simp, Nat.zero_le _, by simp, rfl⟩, ?_⟩
  rintro i m ys H' ⟨rfl, hi, rfl, rfl⟩
  by_cases hlt : i < xs.length
  · refine .inr ⟨⟨xs, xs[i], stays _, by simp [hlt]⟩, fun x H'' y => ?_⟩
    obtain ⟨e, y⟩ := y
    subst e
    have ex := y xs (stays _)
    refine hs i x _ _ _ ex (fun b hb => upd_ne hb) ⟨upd_same, by simp; omega, xs.length - (i + 1), by omega, rfl, hlt, ?_, ?_⟩
    · rw [List.take_add_one, ex, List.map_append]; rfl
    · rw [upd_upd]
  · have e : i = xs.length := by omega
    subst e
    refine .inl ⟨⟨xs, stays _, Nat.le_refl _⟩, ?_⟩
    rw [List.take_length]
    exact hq
end
end L2
set_option Elab.async false
set_option linter.all false
set_option maxRecDepth 100000
set_option maxHeartbeats 4000000
namespace L2
open PySem PySem.Spec PyProof.Rows
section
variable {P : Program} {w : World} {H : Hp} {h h' : Heap} {a : Addr} {o : HO}
end
noncomputable def Tr (h : Heap) (e T : Addr) (cls : Value) : Prop := ∃ oe vs oT ts a0, h.get? e = some oe ∧ oe.cls = cls ∧ vs[0]? = some a0 ∧ oe.data = .fields vs ∧ vs[1]? = some (.ref T) ∧ T ≠ e ∧ h.get? T = some oT ∧ oT.data = .fields ts ∧ ts[3]? = some Value.none
section
variable {M : Model} {A : Around} {E : Value → Shared → Prop} {s : Shared} {Q : Unit → Shared → Prop} {base : Heap} {env : Env} {outer l : List Env} {L e T : Addr} {cls : Value}
end
section
variable {X : Cx} {pins : List (Addr × Obj)} {σ : St} {H : Hp} {s : Shared} {h' : Heap} {ch : List Addr}
structure Ours (X : Cx) (pins : List (Addr × Obj)) (H : Hp) (b : Addr) : Prop where
  new : X.s₀.heap.get? b = none
  free : H b = none
  loc : b ≠ X.env.locals
  cell : ∀ x c, X.env.cells.lookup x = some c → c ≠ b
  pin : ∀ p ∈ X.pn ++ pins, p.1 ≠ b
end
noncomputable def CX1 (P : Program) (w : World) : CXT := fun outer H s E e s' => ∃ (ea T : Addr) (cls : Value) (H' : Hp), e = .ref ea ∧ s.heap.get? ea = none ∧ s.heap.get? T = none ∧ H' ea = none ∧ H' T = none ∧ Tr s'.heap ea T cls ∧
  s'.os = s.os ∧ AllBare s'.gens ∧ Un (frs outer) [] H H' s.heap s'.heap ∧ HOk P w H' s'.heap ∧ E cls none H'
theorem passN {P : Program} {w : World} {X : Cx} : Passes (CX1 P w) X E0 := fun _ _ _ _ _ _ _ ⟨_, _, _, _, _, _, _, _, _, _, _, _, _, _, q⟩ => q.elim
section
variable {P : Program} {w : World} {K : PySem.W.Frag} {mg : Str → Option Value} {base : Heap} {N : List Str} {qual : Str} {scope : Scope} {f : Addr} {cd : Value} {A : Around} {outer : List Env} {s : Shared} {H : Hp} {E : XK}
end
section
variable {P : Program} {w : World} {K : PySem.W.Frag} {mg : Str → Option Value} {base : Heap}
theorem FnOk.up {CX : CXT} {k : Nat} {f : Addr} {fd : FuncData} {ps : List Str} {sp : Sp} (F : FnOk P w K mg base CX0 k f fd ps sp) : FnOk P w K mg base CX k f fd ps sp :=
  ⟨F.len, fun A outer s H args us vs Q E hr he hb hv hs => codeAny_mono (F.run A outer s H args us vs Q E hr he hb hv hs) fun r s' q => by
    cases r with
    | error e => exact False.elim q
    | ok fl => cases fl <;> exact q⟩
end
section
variable {X : Cx} {pins : List (Addr × Obj)} {σ : St} {H : Hp} {s : Shared} {e : Addr}
end
end L2
set_option Elab.async false
set_option linter.all false
set_option maxRecDepth 100000
set_option maxHeartbeats 4000000
namespace L2
open PySem PySem.Spec PyProof.Rows
structure Def (P : Program) (w : World) (K : PySem.W.Frag) (mg : Str → Option Value) (base : Heap) (x : Str) (ps : List Str) (k : Nat) (sp : Sp) (f : Addr) (fd : FuncData) : Prop where
  ok : FnOk P w K mg base (CX1 P w) k f fd ps sp
  b : Binds K fd ps []
  kp : PySem.W.keepIn K (.ref f) = true
  m : mg x = some (.ref f)
section
variable {X : Cx} {f : Addr} {fd : FuncData} {ps : List Str} {sp : Sp} {x : Str} {p pos : Pos} {e : Expr} {es : List Expr} {t : TA} {j k : Nat}
theorem pcall (D : Def X.prog X.w X.K X.mg X.base x ps j sp f fd) (hr : Room k X.A) (ha : PA X (e :: es) t) (hjk : j ≤ k := by decide) (hg : Gl X x := by rfl)
    (hdb : (x == ("__debug__" : Str)) = false := by decide) (he : starEach (e :: es) X.env = (false, eval e X.env) :: starEach es X.env := by rfl) (hpl : (backTo pos (starEach es X.env)).any (·.1) = false := by rfl) :
    PE X (.Call (.Name x p) (e :: es) [] pos) (tCall sp [] E0 t) := pe_call D.ok (hr.mono hjk) hg D.m D.kp D.b .nil passN ha hdb he hpl
end
theorem bb_isinstance : bootBuiltins "isinstance" = some (.builtin "isinstance") := by decide +kernel
theorem bb_int : bootBuiltins "int" = some (.type "int") := by decide +kernel
theorem bb_bool : bootBuiltins "bool" = some (.type "bool") := by decide +kernel
theorem bb_list : bootBuiltins "list" = some (.type "list") := by decide +kernel
theorem bb_tuple : bootBuiltins "tuple" = some (.type "tuple") := by decide +kernel
theorem bb_str : bootBuiltins "str" = some (.type "str") := by decide +kernel
theorem bb_len : bootBuiltins "len" = some (.builtin "len") := by decide +kernel
theorem Same.upd {H H' : Hp} (h : Same H H') {p : Addr} (n : H p = none) (o : HO) : Same H (L2.upd H' p o) := fun b u q => by
  rw [upd_ne (ne_of_none q n)]; exact h b u q
theorem Same.new {H H' : Hp} (h : Same H H') {p : Addr} (n : H' p = none) (o : HO) : Same H (L2.upd H' p o) := h.trans fun b u q => by
  rw [upd_ne (ne_of_none q n)]; exact q
theorem sz {n : Nat} (h : n ≤ 1000000) : n ≤ sizeLine := Nat.le_trans h (by decide)
theorem sz' {n : Nat} (h : n ≤ 1000000) : n < sizeLine := Nat.lt_of_le_of_lt h (by decide)
theorem kit_int_int {K : PySem.W.Frag} : PySem.W.kitOne K (.type "int") (.type "int") = some true := by rfl
theorem kit_list_list {K : PySem.W.Frag} : PySem.W.kitOne K (.type "list") (.type "list") = some true := by rfl
theorem kit_str_str {K : PySem.W.Frag} : PySem.W.kitOne K (.type "str") (.type "str") = some true := by rfl
theorem kit_int_bool {K : PySem.W.Frag} : PySem.W.kitOne K (.type "int") (.type "bool") = some false := by rfl
theorem atI_int {ns : List Int} {i : Int} (h0 : 0 ≤ i) (h1 : i < (ns.length : Int)) : atI (ns.map V.int) i = some (.int (ns.getD i.toNat 0)) := by
  have hk : i.toNat < ns.length := by omega
  have ek : i = ((i.toNat : Nat) : Int) := by omega
  have q : atI (ns.map V.int) ((i.toNat : Nat) : Int) = some (.int (ns.getD i.toNat 0)) := atI_nat (by rw [List.getElem?_map, List.getD_eq_getElem?_getD, List.getElem?_eq_getElem hk] <;> rfl)
  rw [← ek] at q
  exact q
end L2
namespace L2
open PySem PySem.Spec PyProof.Rows
theorem ttN {σ : St} {H : Hp} {F : Bool → Hp → Prop} (h : F true H) : ttNil σ H F := h
theorem pm {j : Int} (h : 0 < j) : 0 < j := h
noncomputable def cutI (ns : List Int) (lo hi : Option Int) : List Int := (ns.drop (HT.sIx ns.length 0 lo)).take (HT.sIx ns.length ns.length hi - HT.sIx ns.length 0 lo)
theorem cutV_map (ns : List Int) (lo hi : Option Int) : cutV (ns.map V.int) lo hi = (cutI ns lo hi).map V.int := by
  unfold cutV cutI
  rw [List.length_map, List.map_take, List.map_drop]
theorem get_int {ns : List Int} {i : Nat} {x : V} (h : (ns.map V.int)[i]? = some x) : ∃ c, x = .int c := by
  rw [List.getElem?_map] at h
  cases e : ns[i]? with
  | none => rw [e] at h; cases h
  | some c => rw [e] at h; cases h; exact ⟨c, rfl⟩
end L2
namespace L2
open PySem PySem.Spec PyProof.Rows
noncomputable def tCut (t u : TS) : TS := fun D σ H => ∃ P : St → Hp → Prop, t { D with nx := P } σ H ∧ ∀ σ' H', P σ' H' → u D σ' H'
theorem pss_cut {X : Cx} {st : Stmt} {rest : List Stmt} {t u : TS} (h1 : PS X st t) (h2 : PSs X rest u) : PSs X (st :: rest) (tCut t u) := by
  intro pins s σ H D I h
  obtain ⟨P, ha, hb⟩ := h
  refine wpAny_execs_cons (thn (h1 pins s σ H { D with nx := P } I ha) fun f s1 q => ?_)
  cases f with
  | next =>
    obtain ⟨σ', H', I', q⟩ := q
    exact h2 pins s1 σ' H' D I' (hb σ' H' q)
  | ret v => exact q
  | brk => exact q
  | cont => exact q
theorem iteB {b b' : Bool} {A B : Prop} (e : b = b') (h : if b' = true then A else B) : if b = true then A else B := by rw [e]; exact h
theorem iteP {c A B : Prop} [Decidable c] (hc : c) (h : A) : if decide c = true then A else B := by rw [decide_eq_true hc]; exact iteT h
theorem iteN {c A B : Prop} [Decidable c] (hc : ¬ c) (h : B) : if decide c = true then A else B := by rw [decide_eq_false hc]; exact iteF h
theorem ixN_nat {n : Nat} {i : Int} (h0 : 0 ≤ i) (h1 : i < n) : ixN n i = some i.toNat := by unfold ixN; rw [if_pos h0, if_pos h1]
noncomputable def sgn (c : Nat) : V := .str ⟨#[c]⟩
theorem p40 : (Str.ofString "(") = ⟨#[40]⟩ := by decide +kernel
theorem p41 : (Str.ofString ")") = ⟨#[41]⟩ := by decide +kernel
theorem sgn40 : V.str (Str.ofString "(") = sgn 40 := by rw [p40]; rfl
theorem sgn41 : V.str (Str.ofString ")") = sgn 41 := by rw [p41]; rfl
theorem sgn_inj {c d : Nat} (h : sgn c = sgn d) : c = d := by
  unfold sgn at h
  injection h with h
  injection h with h
  have h2 := congrArg Array.toList h
  simpa using h2
theorem dec40 (c : Nat) : decide (V.str ⟨#[c]⟩ = V.str (Str.ofString "(")) = decide (c = 40) := by
  rw [sgn40]
  show decide (sgn c = sgn 40) = _
  by_cases h : c = 40
  · subst h; rw [decide_eq_true rfl, decide_eq_true rfl]
  · rw [decide_eq_false h, decide_eq_false fun z => h (sgn_inj z)]
theorem dec41 (c : Nat) : decide (V.str ⟨#[c]⟩ = V.str (Str.ofString ")")) = decide (c = 41) := by
  rw [sgn41]
  show decide (sgn c = sgn 41) = _
  by_cases h : c = 41
  · subst h; rw [decide_eq_true rfl, decide_eq_true rfl]
  · rw [decide_eq_false h, decide_eq_false fun z => h (sgn_inj z)]
theorem drop_cps {x : Str} {i c : Nat} (h : x.cps[i]? = some c) : x.cps.toList.drop i = c :: x.cps.toList.drop (i + 1) := by
  have h' : x.cps.toList[i]? = some c := by simpa using h
  obtain ⟨hi, e⟩ := List.getElem?_eq_some_iff.mp h'
  rw [List.drop_eq_getElem_cons hi, e]
theorem drop_all (x : Str) : x.cps.toList.drop x.cps.size = [] := List.drop_eq_nil_of_le (by simp)
theorem len_cps (x : Str) : x.cps.toList.length = x.length := by simp [Str.length]
theorem glue_list (sep : Str) (hs : sep.cps = #[]) : ∀ (ys : List Str) (acc : Array Nat), (ys.foldl (fun acc p => acc ++ sep.cps ++ p.cps) acc).toList = acc.toList ++ (ys.map (·.cps.toList)).flatten
  | [], acc => by simp
  | y :: r, acc => by
    rw [List.foldl_cons, glue_list sep hs r]
    simp [hs]
theorem join_codes (sep : Str) (hs : sep.cps = #[]) (ys : List Str) : (Txt.join sep ys).cps.toList = (ys.map (·.cps.toList)).flatten := by
  unfold Txt.join Builtin.Str.glued
  show ((ys.drop 1).foldl (fun acc p => acc ++ sep.cps ++ p.cps) (ys.headD Str.empty).cps).toList = _
  rw [glue_list sep hs]
  cases ys with
  | nil => rfl
  | cons y r => simp
theorem empty_cps : (Str.ofString "").cps = #[] := by decide +kernel
noncomputable def mkS (c : Nat) : Str := ⟨#[c]⟩
theorem map_sgn (l : List Nat) : l.map sgn = (l.map mkS).map V.str := by rw [List.map_map]; rfl
theorem flat_mkS : ∀ l : List Nat, ((l.map mkS).map (·.cps.toList)).flatten = l
  | [] => rfl
  | c :: r => by rw [List.map_cons, List.map_cons, List.flatten_cons, flat_mkS r]; rfl
theorem join_sgn (l : List Nat) : (Txt.join (Str.ofString "") (l.map mkS)).cps.toList = l := by rw [join_codes _ empty_cps, flat_mkS]
theorem sum_mkS : ∀ l : List Nat, ((l.map mkS).map (·.length)).sum = l.length
  | [] => rfl
  | c :: r => by
    rw [List.map_cons, List.map_cons, List.sum_cons, sum_mkS r, List.length_cons]
    show 1 + r.length = r.length + 1
    omega
theorem len_of_codes {x : Str} {l : List Nat} (h : x.cps.toList = l) : x.length = l.length := by rw [← len_cps, h]
theorem app_length (x y : Str) : (x ++ y).length = x.length + y.length := by
  show (x.cps ++ y.cps).size = _
  rw [Array.size_append]; rfl
theorem cutI_length (ns : List Int) (lo hi : Option Int) : (cutI ns lo hi).length ≤ ns.length := by
  unfold cutI; rw [List.length_take, List.length_drop]; omega
theorem cutI_from (ns : List Int) {t : Int} (h : 0 ≤ t) : cutI ns (some t) none = ns.drop t.toNat := by
  unfold cutI
  have e1 : HT.sIx ns.length 0 (some t) = min t.toNat ns.length := by
    show (if t < 0 then _ else _) = _
    rw [if_neg (by omega)]
  rw [e1, HT.sIx_none]
  by_cases hl : t.toNat ≤ ns.length
  · rw [Nat.min_eq_left hl]; exact List.take_of_length_le (by simp)
  · rw [Nat.min_eq_right (by omega), List.drop_eq_nil_of_le (Nat.le_refl _), List.drop_eq_nil_of_le (by omega)]; simp
end L2
namespace Ck
noncomputable def shL : Nat → List Int
  | 0 => [1]
  | k + 1 => shL k ++ [((List.range (k + 1)).map fun j => (shL k).getD j 0 * (shL k).getD (k - j) 0).sum]
noncomputable def sh (k : Nat) : Int := (shL k).getD k 0
end Ck
namespace Ck
noncomputable def r : Nat → Nat → Int
  | 0, _ => 1
  | _ + 1, 0 => 0
  | u + 1, d + 1 => if d < u then 0 else r u (d + 1) + r (u + 1) d
noncomputable def row (n u : Nat) : List Int := (List.range (n + 1 - u)).map fun i => r u (u + i)
noncomputable def pw (a : Int) : Nat → Int
  | 0 => 1
  | k + 1 => pw a k * a
end Ck
namespace Ck
noncomputable def clo : Nat → List Nat → Bool
  | k, [] => k == 0
  | k, c :: t => if c = 40 then clo (k + 1) t else if c = 41 then (match k with | 0 => false | k + 1 => clo k t) else false
theorem clo_up (k : Nat) (t : List Nat) : clo k (40 :: t) = clo (k + 1) t := by
  conv => lhs; unfold clo
  rw [if_pos rfl]
theorem clo_down (k : Nat) (t : List Nat) : clo (k + 1) (41 :: t) = clo k t := by
  conv => lhs; unfold clo
  rw [if_neg (by decide), if_pos rfl]
theorem clo_under (t : List Nat) : clo 0 (41 :: t) = false := by
  unfold clo
  rw [if_neg (by decide), if_pos rfl]
theorem clo_other {k c : Nat} {t : List Nat} (h1 : ¬ c = 40) (h2 : ¬ c = 41) : clo k (c :: t) = false := by
  unfold clo
  rw [if_neg h1, if_neg h2]
theorem clo_nil (k : Nat) : clo k [] = (k == 0) := by unfold clo; rfl
inductive Good : Nat → Nat → List Nat → Prop
  | nil : Good 0 0 []
  | up {u d : Nat} {t : List Nat} (h : Good u d t) (le : u + 1 ≤ d) : Good (u + 1) d (40 :: t)
  | down {u d : Nat} {t : List Nat} (h : Good u d t) (le : u ≤ d) : Good u (d + 1) (41 :: t)
theorem Good.length {u d : Nat} {t : List Nat} (h : Good u d t) : t.length = u + d := by
  induction h with
  | nil => rfl
  | up _ _ ih => rw [List.length_cons, ih]; omega
  | down _ _ ih => rw [List.length_cons, ih]; omega
theorem good_of_clo : ∀ (t : List Nat) (k : Nat), clo k t = true → ∃ u, Good u (u + k) t
  | [], k, h => by
    have e : k = 0 := by simpa [clo] using h
    subst e
    exact ⟨0, .nil⟩
  | c :: t, k, h => by
    unfold clo at h
    by_cases h1 : c = 40
    · rw [if_pos h1] at h
      obtain ⟨u, g⟩ := good_of_clo t (k + 1) h
      subst h1
      refine ⟨u + 1, ?_⟩
      rw [show u + 1 + k = u + (k + 1) by omega]
      exact .up g (by omega)
    · rw [if_neg h1] at h
      by_cases h2 : c = 41
      · rw [if_pos h2] at h
        cases k with
        | zero => cases h
        | succ k =>
          obtain ⟨u, g⟩ := good_of_clo t k h
          subst h2
          exact ⟨u, Good.down g (Nat.le_add_right u k)⟩
      · rw [if_neg h2] at h; cases h
noncomputable def lt : List Nat → List Nat → Bool
  | c :: s, e :: t => if c = e then lt s t else c == 40
  | _, _ => false
end Ck
set_option Elab.async false
set_option linter.all false
set_option maxRecDepth 100000
set_option maxHeartbeats 4000000
namespace Ck
open PySem
theorem cps_len (x : Str) : x.cps.toList.length = x.length := by simp [Str.length]
noncomputable def ix (n d : Nat) : Option Int → Nat
  | none => d
  | some v => if v < 0 then (v + (n : Int)).toNat else min v.toNat n
theorem pick_range (l : List Nat) : ∀ (k a : Nat), ((List.range k).map fun j => a + j).filterMap (fun j => l[j]?) = (l.drop a).take k
  | 0, a => by simp
  | k + 1, a => by
    rw [List.range_succ, List.map_append, List.filterMap_append, pick_range l k a, List.take_add_one]
    congr 1
    rw [List.getElem?_drop]
    cases h : l[a + k]? <;> simp [h]
theorem slice_indices (lo hi : Option Int) (n : Nat) : Builtin.Str.strSliceIndices lo hi 1 n = (List.range (ix n n hi - ix n 0 lo)).map fun j => ix n 0 lo + j := by
  have key : ∀ (a b : Nat), sliceRange (a : Int) (b : Int) 1 = (List.range (b - a)).map fun j => a + j := by
    intro a b
    unfold sliceRange
    simp only [show (1 : Int) > 0 by decide, if_true, Int.ediv_one]
    have e : (if (a : Int) < (b : Int) then (b : Int) - (a : Int) + 1 - 1 else 0).toNat = b - a := by split <;> omega
    rw [e]
    refine List.map_congr_left fun j _ => ?_
    omega
  unfold Builtin.Str.strSliceIndices
  have elo : (match lo with | none => (0 : Int) | some i => max 0 (min (if i < 0 then i + (n : Int) else i) (n : Int))) = ((ix n 0 lo : Nat) : Int) := by
    cases lo with
    | none => rfl
    | some i =>
      show max 0 (min (if i < 0 then i + (n : Int) else i) (n : Int)) = (((if i < 0 then (i + (n : Int)).toNat else min i.toNat n) : Nat) : Int)
      split <;> omega
  have ehi : (match hi with | none => (n : Int) | some i => max 0 (min (if i < 0 then i + (n : Int) else i) (n : Int))) = ((ix n n hi : Nat) : Int) := by
    cases hi with
    | none => rfl
    | some i =>
      show max 0 (min (if i < 0 then i + (n : Int) else i) (n : Int)) = (((if i < 0 then (i + (n : Int)).toNat else min i.toNat n) : Nat) : Int)
      split <;> omega
  rw [← key, ← elo, ← ehi]
  cases lo <;> cases hi <;> simp <;> rfl
theorem slice_codes (x : Str) (lo hi : Option Int) : (Txt.slice x lo hi).cps.toList = (x.cps.toList.drop (ix x.length 0 lo)).take (ix x.length x.length hi - ix x.length 0 lo) := by
  have e : ((Builtin.Str.strSliceIndices lo hi 1 x.length).filterMap (x.cps[·]?)) = (x.cps.toList.drop (ix x.length 0 lo)).take (ix x.length x.length hi - ix x.length 0 lo) := by
    rw [slice_indices, ← pick_range]
    congr 1
    funext j
    simp
  unfold Txt.slice
  split
  · rename_i h
    have hl : (Builtin.Str.strSliceIndices lo hi 1 x.length).length = x.length := by simpa using h
    rw [slice_indices, List.length_map, List.length_range] at hl
    have h1 : ix x.length x.length hi ≤ x.length := by
      cases hi with
      | none => exact Nat.le_refl _
      | some v => show (if v < 0 then (v + (x.length : Int)).toNat else min v.toNat x.length) ≤ x.length; split <;> omega
    have h2 : x.length = 0 ∨ ix x.length 0 lo = 0 := by omega
    have h3 : ix x.length x.length hi - ix x.length 0 lo = x.length := hl
    rw [h3]
    rcases h2 with h2 | h2
    · have : x.cps.toList = [] := List.eq_nil_of_length_eq_zero (by rw [cps_len]; exact h2)
      rw [this]; simp
    · rw [h2, List.drop_zero, List.take_of_length_le (by rw [cps_len]; exact Nat.le_refl _)]
  · show ((Builtin.Str.strSliceIndices lo hi 1 x.length).filterMap (x.cps[·]?)).toArray.toList = _
    rw [← e]
theorem slice_to {x : Str} {p : Int} (h0 : 0 ≤ p) : (Txt.slice x none (some p)).cps.toList = x.cps.toList.take p.toNat := by
  rw [slice_codes]
  have e : ix x.length x.length (some p) = min p.toNat x.length := by show (if p < 0 then _ else _) = _; rw [if_neg (by omega)]
  rw [e]
  show (x.cps.toList.drop 0).take (min p.toNat x.length - 0) = _
  rw [List.drop_zero, Nat.sub_zero]
  by_cases h : p.toNat ≤ x.length
  · rw [Nat.min_eq_left h]
  · rw [Nat.min_eq_right (by omega), List.take_of_length_le (by rw [cps_len]; exact Nat.le_refl _), List.take_of_length_le (by rw [cps_len]; omega)]
theorem app_codes (x y : Str) : (x ++ y).cps.toList = x.cps.toList ++ y.cps.toList := by
  show (x.cps ++ y.cps).toList = _
  simp
theorem occ_loop (x : Str) (c : Nat) : ∀ (m i : Nat) (st : Array Nat × Nat), st.2 ≤ i → st.1.size ≤ i → i + m ≤ x.length + 1 →
    (forIn (List.range' i m) st (StrLaws.occBody x ⟨#[c]⟩ x.length (x.length + 1))).run.fst.size = st.1.size + ((x.cps.toList.drop i).take m).count c
  | 0, i, st, _, _, _ => by
    show st.1.size = _
    simp
  | m + 1, i, st, h1, h2, h3 => by
    rw [List.range'_succ, List.forIn_cons]
    unfold StrLaws.occBody
    have hone := StrLaws.subAt_one x c i
    have step : (x.cps.toList.drop i).take (m + 1) = (match x.cps.toList[i]? with | some a => [a] | none => []) ++ (x.cps.toList.drop (i + 1)).take m := by
      cases hx : x.cps.toList[i]? with
      | none =>
        have := List.getElem?_eq_none_iff.mp hx
        rw [List.drop_eq_nil_of_le this, List.drop_eq_nil_of_le (by omega)]; simp
      | some a =>
        obtain ⟨hlt, e⟩ := List.getElem?_eq_some_iff.mp hx
        rw [List.drop_eq_getElem_cons hlt, e]; rfl
    by_cases hc : x.cps.toList[i]? = some c
    · have hs := hone.mpr hc
      rw [if_pos ⟨⟨⟨by omega, h1⟩, hs.1⟩, hs.2⟩]
      show (forIn (List.range' (i + 1) m) (st.1.push i, i + 1) (StrLaws.occBody x ⟨#[c]⟩ x.length (x.length + 1))).run.fst.size = _
      rw [occ_loop x c m (i + 1) _ (Nat.le_refl _) (by simp; omega) (by omega), step, hc]
      simp
      omega
    · rw [if_neg fun h => hc (hone.mp ⟨h.1.2, h.2⟩)]
      show (forIn (List.range' (i + 1) m) (st.1, st.2) (StrLaws.occBody x ⟨#[c]⟩ x.length (x.length + 1))).run.fst.size = _
      rw [occ_loop x c m (i + 1) (st.1, st.2) (Nat.le_succ_of_le h1) (Nat.le_succ_of_le h2) (by omega), step]
      cases hx : x.cps.toList[i]? with
      | none => simp
      | some a =>
        rw [hx] at hc
        have hne : a ≠ c := fun e => hc (by rw [e])
        simp [List.count_cons, hne]
theorem count_one (x : Str) (c : Nat) : Txt.count x ⟨#[c]⟩ = ((x.cps.toList.count c : Nat) : Int) := by
  unfold Txt.count
  rw [StrLaws.occ_eq, Array.length_toList, Nat.sub_zero, occ_loop x c _ 0 _ (Nat.le_refl _) (by simp) (by omega)]
  rw [List.drop_zero, List.take_of_length_le (by rw [cps_len]; omega)]
  simp
theorem mul_codes (c : Nat) (n : Int) : (Txt.mul ⟨#[c]⟩ n).cps.toList = List.replicate n.toNat c := by
  have fold : ∀ (k : Nat) (acc : Array Nat), ((List.replicate k (#[c] : Array Nat)).foldl (· ++ ·) acc).toList = acc.toList ++ List.replicate k c := by
    intro k
    induction k with
    | zero => intro acc; simp
    | succ k ih => intro acc; rw [List.replicate_succ, List.foldl_cons, ih, List.replicate_succ]; simp
  unfold Txt.mul
  split
  · rename_i h
    rw [show n.toNat = 0 by omega]; rfl
  · split
    · rename_i h1 h2
      have : n = 1 := by
        rw [Bool.or_eq_true] at h2
        rcases h2 with z | z
        · simpa using z
        · exact absurd z (by show ¬ ((1 == 0) = true); decide)
      subst this; rfl
    · show ((List.replicate n.toNat (#[c] : Array Nat)).foldl (· ++ ·) #[]).toList = _
      rw [fold]; rfl
end Ck
set_option Elab.async false
set_option linter.all false
set_option maxRecDepth 100000
set_option maxHeartbeats 4000000
namespace Ck
open PySem L2
end Ck
namespace L2
open PySem
theorem rep_one (k : Nat) (v : V) : (List.replicate k [v]).flatten = List.replicate k v := by
  induction k with
  | zero => rfl
  | succ k ih => rw [List.replicate_succ, List.flatten_cons, ih, List.replicate_succ]; rfl
end L2
namespace Ck
open PySem L2
end Ck
namespace L2
open PySem PySem.Spec PyProof.Rows
noncomputable def rCount : V → List V → Hp → VK → Prop := fun x vs H Q => ∃ z y, x = .str z ∧ vs = [.str y] ∧ Q (.int (Txt.count z y)) H
theorem mt_count {X : Cx} : MtM X "str.count" rCount := by
  intro pins s σ H x xs v us Q I rx rs h
  obtain ⟨z, y, rfl, rfl, q⟩ := h
  obtain ⟨t, rfl⟩ := rx
  obtain ⟨u, rfl, t', rfl⟩ := vals1 rs
  exact SC.count ⟨.int (Txt.count z y), H, I.tok _, ⟨_, rfl⟩, q⟩
theorem at_code {x : Str} {i : Int} {c : Nat} (h0 : 0 ≤ i) (h : x.cps.toList[i.toNat]? = some c) : atI x.cps.toList i = some c := by
  have q := atI_nat (xs := x.cps.toList) (j := i.toNat) h
  rw [show ((i.toNat : Nat) : Int) = i by omega] at q
  exact q
theorem str_ext {x y : Str} (h : x.cps.toList = y.cps.toList) : x = y := by
  obtain ⟨a⟩ := x
  obtain ⟨b⟩ := y
  have : a = b := by
    have h' : a.toList = b.toList := h
    rw [← Array.toArray_toList (xs := a), h', Array.toArray_toList]
  rw [this]
end L2
namespace Ck
open PySem L2
structure Beg (n : Nat) (l : List Nat) (i u h : Nat) : Prop where
  len : l.length = i
  bal : 2 * u = i + h
  le : u ≤ n
  clo : ∀ t, Ck.clo 0 (l ++ t) = Ck.clo h t
theorem Beg.up {n : Nat} {l : List Nat} {i u h : Nat} (b : Beg n l i u h) (hu : u < n) : Beg n (l ++ [40]) (i + 1) (u + 1) (h + 1) :=
  ⟨by rw [List.length_append, b.len]; rfl, by have := b.bal; omega, hu, fun t => by rw [List.append_assoc, b.clo]; exact clo_up h t⟩
theorem Beg.down {n : Nat} {l : List Nat} {i u h : Nat} (b : Beg n l i u (h + 1)) : Beg n (l ++ [41]) (i + 1) u h :=
  ⟨by rw [List.length_append, b.len]; rfl, by have := b.bal; omega, b.le, fun t => by rw [List.append_assoc, b.clo]; exact clo_down h t⟩
theorem prefix_beg {n : Nat} {c : List Nat} (g : Good n n c) : ∀ i, i ≤ c.length → ∃ h u', Beg n (c.take i) i ((c.take i).count 40) h ∧ Good u' (u' + h) (c.drop i) ∧ (c.take i).count 40 + u' = n
  | 0, _ => ⟨0, n, ⟨rfl, rfl, by simp, fun t => rfl⟩, g, by simp⟩
  | i + 1, hi => by
    obtain ⟨h, u', b, gd, e⟩ := prefix_beg g i (by omega)
    have hlt : i < c.length := by omega
    rw [List.drop_eq_getElem_cons hlt] at gd
    have et : c.take (i + 1) = c.take i ++ [c[i]] := by rw [List.take_add_one, List.getElem?_eq_getElem hlt]; rfl
    generalize hc : c[i] = x at gd et
    generalize hd : u' + h = d at gd
    rw [et]
    cases gd with
    | @up v d t g' le =>
      refine ⟨h + 1, v, ?_, ?_, ?_⟩
      · have := b.up (by omega)
        rw [List.count_append, show List.count 40 [40] = 1 by rfl]
        exact this
      · rw [show v + (h + 1) = d by omega]; exact g'
      · rw [List.count_append, show List.count 40 [40] = 1 by rfl]; omega
    | @down v d' t g' le =>
      obtain ⟨h', rfl⟩ : ∃ h', h = h' + 1 := ⟨h - 1, by omega⟩
      refine ⟨h', u', ?_, ?_, ?_⟩
      · have := b.down
        rw [List.count_append, show List.count 40 [41] = 0 by rfl]
        exact this
      · rw [show u' + h' = d' by omega]; exact g'
      · rw [List.count_append, show List.count 40 [41] = 0 by rfl]; omega
end Ck
set_option Elab.async false
set_option linter.all false
set_option maxRecDepth 100000
set_option maxHeartbeats 4000000
namespace L2
open PySem PySem.Spec PyProof.Rows
section
variable {X : Cx} {tg : Expr}
end
noncomputable def eqL : List V → List V → Bool
  | [], [] => true
  | x :: xs, y :: ys => eqV x y && eqL xs ys
  | _, _ => false
theorem eqL_len : ∀ {xs ys : List V}, xs.length ≠ ys.length → eqL xs ys = false
  | [], [], h => absurd rfl h
  | [], _ :: _, _ => rfl
  | _ :: _, [], _ => rfl
  | x :: xs, y :: ys, h => by
    rw [eqL, eqL_len (xs := xs) (ys := ys) (by simpa using h), Bool.and_false]
theorem eqL_all : ∀ {xs ys : List V}, xs.length = ys.length → (List.range xs.length).all (fun j => eqV (xs.getD j .non) (ys.getD j .non)) = eqL xs ys
  | [], [], _ => rfl
  | x :: xs, y :: ys, h => by
    rw [eqL, ← eqL_all (xs := xs) (ys := ys) (by simpa using h), List.length_cons, List.range_succ_eq_map, List.all_cons, List.all_map]
    rfl
noncomputable def rEqL (K : PySem.W.Frag) (neg : Bool) : R2 := fun x y H Q => ∃ a b xs ys, x = .ref a ∧ y = .ref b ∧ SqL K H a xs ∧ SqL K H b ys ∧ xs.all flatV = true ∧ ys.all flatV = true ∧ Q (.bl (if neg then !eqL xs ys else eqL xs ys)) H
section
variable {X : Cx}
theorem items_eqAt {A : Around} {s : Shared} {xs ys : List V} {us vs : List Value} (r : Vals xs us) (r' : Vals ys vs) (fx : xs.all flatV = true) (fy : ys.all flatV = true) :
    ∀ j (h1 : j < us.toArray.size) (h2 : j < vs.toArray.size), SeqAt.EqAt A s us.toArray[j] vs.toArray[j] (eqV (xs.getD j .non) (ys.getD j .non)) := fun j h1 h2 => by
  have l1 := r.length
  have l2 := r'.length
  have h1' : j < us.length := by simpa using h1
  have h2' : j < vs.length := by simpa using h2
  obtain ⟨u, eu, ru⟩ := r.get (List.getElem?_eq_getElem (show j < xs.length by omega))
  obtain ⟨v, ev, rv⟩ := r'.get (List.getElem?_eq_getElem (show j < ys.length by omega))
  have e1 : us.toArray[j] = u := by
    rw [List.getElem?_eq_getElem h1'] at eu
    simpa using eu
  have e2 : vs.toArray[j] = v := by
    rw [List.getElem?_eq_getElem h2'] at ev
    simpa using ev
  rw [e1, e2]
  have g1 : xs.getD j .non = xs[j]'(by omega) := by rw [List.getD_eq_getElem?_getD, List.getElem?_eq_getElem (show j < xs.length by omega)]; rfl
  have g2 : ys.getD j .non = ys[j]'(by omega) := by rw [List.getD_eq_getElem?_getD, List.getElem?_eq_getElem (show j < ys.length by omega)]; rfl
  rw [g1, g2]
  exact eqAt_V ru rv (List.all_eq_true.mp fx _ (List.getElem_mem _)) (List.all_eq_true.mp fy _ (List.getElem_mem _))
theorem op_eq_list (hu : X.A.units < cLine) : OpR X (compareOp .Eq) (rEqL X.K false) := by
  intro pins s σ H x y v u Q I rx ry h
  obtain ⟨a, b, xs, ys, rfl, rfl, ha, hb, fx, fy, q⟩ := h
  cases rx
  cases ry
  obtain ⟨us, r, pl, hz⟩ := I.list ha
  obtain ⟨vs, r', pl', hz'⟩ := I.list hb
  have l1 := r.length
  have l2 := r'.length
  by_cases hl : xs.length = ys.length
  · refine SeqAt.eq_listAt (e := fun j => eqV (xs.getD j .non) (ys.getD j .non)) pl.isList pl'.isList (by simp; omega) hu (items_eqAt r r' fx fy) ⟨.bl _, H, I, rfl, ?_⟩
    rw [show us.toArray.size = xs.length by simp; omega, eqL_all hl]
    exact q
  · refine SeqAt.eq_list_lengthsAt pl.isList pl'.isList (by simp; omega) hu ⟨.bl false, H, I, rfl, ?_⟩
    rw [← eqL_len hl]
    exact q
end
end L2
set_option Elab.async false
set_option linter.all false
set_option maxRecDepth 100000
set_option maxHeartbeats 4000000
namespace L2
open PySem PySem.Spec PyProof.Rows PySem.W Builtin Builtin.ObjectAttr Builtin.Getset_descriptor
section
variable {K : Frag} {e C : Addr} {M : Model} {h : Heap} {prog : Program} {w : World} {A : Around} {E : Value → Shared → Prop} {s : Shared}
end
section
variable {K : Frag} {e C : Addr} {M : Model} {h : Heap} {prog : Program} {w : World} {A : Around} {E : Value → Shared → Prop} {s : Shared}
end
section
variable {X : Cx}
theorem hu0 {A : Around} {k : Nat} (hr : Room k A) : A.units < cLine := Nat.lt_of_succ_lt (hu_of hr)
end
theorem mulOk_sign {x : Str} {n : Int} (hx : x.length = 1) (h0 : 0 ≤ n) (h1 : n ≤ 100) : MulOk x n := by
  refine ⟨?_, fun h2 _ => ?_, fun h2 _ => ?_⟩
  · simp; omega
  · rw [hx]
    have : (1 : Int) ≤ (2 ^ 63 - 1) / n := by
      refine Int.le_ediv_of_mul_le (by omega) ?_
      omega
    omega
  · rw [hx, Nat.one_mul]
    exact decide_eq_false (Nat.not_lt.mpr (sz (by omega)))
theorem mulOk_sign41 {n : Int} (h0 : 0 ≤ n) (h1 : n ≤ 100) : MulOk (Str.ofString ")") n := mulOk_sign (by decide +kernel) h0 h1
end L2
namespace Ck
open PySem L2
end Ck
set_option Elab.async false
set_option linter.all false
set_option maxRecDepth 100000
set_option maxHeartbeats 4000000
namespace L2
open PySem PySem.Spec PyProof.Rows
structure MDef (P : Program) (w : World) (K : PySem.W.Frag) (mg : Str → Option Value) (base : Heap) (ps : List Str) (k : Nat) (sp : Sp) (f : Addr) (fd : FuncData) : Prop where
  ok : FnOk P w K mg base (CX1 P w) k f fd ps sp
  b : Binds K fd ps []
section
variable {X : Cx} {C f : Addr} {fd : FuncData} {ps : List Str} {sp : Sp} {m : Str} {apos pos : Pos} {o e : Expr} {es : List Expr} {ta : TE} {t : TA} {j k : Nat}
theorem pmeth {pl : Sem Bool} (ho : PE X o ta) (c : Cls X.K C) (hm : Meth X.K C m f) (D : MDef X.prog X.w X.K X.mg X.base ps j sp f fd) (hr : Room k X.A) (ha : PA X (e :: es) t) (hjk : j ≤ k := by decide)
    (hst : starEach (e :: es) X.env = (false, eval e X.env) :: starEach es X.env := by rfl) (hpl : (backTo pos (starEach es X.env)).any (·.1) = false := by rfl)
    (ht : eval (.Call (.Attribute o m apos) (e :: es) [] pos) X.env = (do
      let ov ← eval o X.env
      standAt apos.atName
      let (f, first) ← holding [ov] (getMethod ov m pl)
      callWith pos f first (backTo pos (starEach (e :: es) X.env)) (backToKw pos (keywordEach [] X.env))) := by rfl) :
    PE X (.Call (.Attribute o m apos) (e :: es) [] pos) (tMeth C m sp [] E0 ta t) := pe_meth ho c hm D.ok (hr.mono hjk) D.b .nil passN ha hst hpl ht
end
structure ClsM (K : PySem.W.Frag) (C : Addr) (m : Str) (f : Addr) : Prop where
  hg : PySem.W.specialIn K (.ref C) "__getattribute__" = some (some (.builtin "type.__getattribute__"))
  rd : PySem.W.readsIn K C (.type "type") = true
  at_ : PySem.W.findCls K (.ref C) (.type "type") m = some (.val (.ref f))
  kp : PySem.W.keepIn K (.ref f) = true
section
variable {X : Cx} {C f : Addr} {fd : FuncData} {ps : List Str} {sp : Sp} {x m : Str} {p apos pos : Pos} {e : Expr} {es : List Expr} {t : TA} {j k : Nat}
theorem pcls {pl : Sem Bool} (hm : X.mg x = some (.ref C)) (M : ClsM X.K C m f) (D : MDef X.prog X.w X.K X.mg X.base ps j sp f fd) (hr : Room k X.A) (ha : PA X (e :: es) t) (hjk : j ≤ k := by decide) (hg : Gl X x := by rfl)
    (hdb : (x == ("__debug__" : Str)) = false := by decide) (hst : starEach (e :: es) X.env = (false, eval e X.env) :: starEach es X.env := by rfl) (hpl : (backTo pos (starEach es X.env)).any (·.1) = false := by rfl)
    (ht : eval (.Call (.Attribute (.Name x p) m apos) (e :: es) [] pos) X.env = (do
      let ov ← eval (.Name x p) X.env
      standAt apos.atName
      let (f, first) ← holding [ov] (getMethod ov m pl)
      callWith pos f first (backTo pos (starEach (e :: es) X.env)) (backToKw pos (keywordEach [] X.env))) := by rfl) :
    PE X (.Call (.Attribute (.Name x p) m apos) (e :: es) [] pos) (tCall sp [] E0 t) := by
  intro pins s σ H Q I h
  refine PySem.W.methodCall_KW (pl := pl) (ld_glob I hg hm ?_ hdb) ht
  refine PySem.W.method_cls I.kIn M.hg (PySem.W.cls_value I.kIn M.rd M.at_ rfl ?_)
  have I1 : Inv X pins σ H { s with toks := s.toks + 1 } := I.tok _
  refine PySem.W.callWith_K (first := []) (h₀ := X.base) I.ok.mod.kin M.kp (thn (ha pos pins _ σ H _ I1 h) fun us s2 ⟨vs, H2, I2, r, q2⟩ => ⟨I2.kIn, ?_⟩) hst hpl
  exact run_fn D.ok (hr.mono hjk) D.b .nil passN I2 r q2
end
section
variable {X : Cx} {C f : Addr} {fd : FuncData} {ps : List Str} {sp : Sp} {x : Str} {p pos : Pos} {j k : Nat}
theorem pmake0 (M : Mk X.K C f) (hm : X.mg x = some (.ref C)) (D : MDef X.prog X.w X.K X.mg X.base ps j sp f fd) (hr : Room k X.A) (hjk : j + 1 ≤ k := by decide) (hg : Gl X x := by rfl) (hdb : (x == ("__debug__" : Str)) = false := by decide) :
    PE X (.Call (.Name x p) [] [] pos) (tMake C sp [] E0 tNil) := pe_make0 M D.ok (hr.mono hjk) hg hm D.b .nil passN hdb
end
end L2
namespace L2
open PySem
noncomputable def below (N : Nat) (sp : Nat → Sp) : Sp := fun vs H Q E => ∃ m, m < N ∧ sp m vs H Q E
end L2
set_option Elab.async false
set_option linter.all false
set_option maxRecDepth 100000
set_option maxHeartbeats 4000000
namespace L2
open PySem PySem.Spec PyProof.Rows
inductive EqD (K : PySem.W.Frag) (H : Hp) : Nat → V → V → Bool → Prop
  | flat {n : Nat} {x y : V} (fx : flatV x = true) (fy : flatV y = true) : EqD K H n x y (eqV x y)
  | same {n : Nat} {a : Addr} : EqD K H n (.ref a) (.ref a) true
  | lst {n : Nat} {a b : Addr} {xs ys : List V} {e : Nat → Bool} (ne : a ≠ b) (ha : SqL K H a xs) (hb : SqL K H b ys) (hl : xs.length = ys.length)
      (hi : ∀ j x y, xs[j]? = some x → ys[j]? = some y → EqD K H n x y (e j)) : EqD K H (n + 1) (.ref a) (.ref b) ((List.range xs.length).all e)
  | lstN {n : Nat} {a b : Addr} {xs ys : List V} (ne : a ≠ b) (ha : SqL K H a xs) (hb : SqL K H b ys) (hl : xs.length ≠ ys.length) : EqD K H (n + 1) (.ref a) (.ref b) false
  | tup {n : Nat} {a b : Addr} {xs ys : List V} {e : Nat → Bool} (ne : a ≠ b) (ha : SqT K H a xs) (hb : SqT K H b ys)
      (hi : ∀ j x y, xs[j]? = some x → ys[j]? = some y → EqD K H n x y (e j)) : EqD K H (n + 1) (.ref a) (.ref b) ((List.range (min xs.length ys.length)).all e && xs.length == ys.length)
section
variable {X : Cx} {pins : List (Addr × Obj)} {σ : St} {H : Hp} {s : Shared}
theorem at_get {xs : List V} {us : List Value} (r : Vals xs us) {j : Nat} (h : j < us.toArray.size) : ∃ x, xs[j]? = some x ∧ RelV x us.toArray[j] := by
  have h' : j < us.length := by simpa using h
  have hx : j < xs.length := by rw [r.length]; exact h'
  obtain ⟨u, eu, ru⟩ := r.get (List.getElem?_eq_getElem hx)
  rw [List.getElem?_eq_getElem h'] at eu
  exact ⟨_, List.getElem?_eq_getElem hx, by
    have : us.toArray[j] = u := by simpa using eu
    rw [this]; exact ru⟩
theorem EqD.at_ {n : Nat} {x y : V} {b : Bool} (d : EqD X.K H n x y b) : ∀ {A : Around} {u v : Value}, A.units + n < cLine → Inv X pins σ H s → RelV x u → RelV y v → SeqAt.EqAt A s u v b := by
  induction d with
  | flat fx fy => intro A u v _ I ru rv; exact eqAt_V ru rv fx fy
  | same =>
    intro A u v _ I ru rv
    cases (show u = Value.ref _ from ru)
    cases (show v = Value.ref _ from rv)
    exact SeqAt.EqAt.same _
  | @lst n a b xs ys e ne ha hb hl hi ih =>
    intro A u v hu I ru rv
    cases (show u = Value.ref _ from ru)
    cases (show v = Value.ref _ from rv)
    obtain ⟨us, r, pl, _⟩ := I.list ha
    obtain ⟨vs, r', pl', _⟩ := I.list hb
    have l1 := r.length
    have l2 := r'.length
    have z := SeqAt.RcAt.lists (A := A) (e := e) pl.isList pl'.isList (by simp; omega) (by omega) fun j h1 h2 => by
      obtain ⟨x, ex, rx⟩ := at_get r h1
      obtain ⟨y, ey, ry⟩ := at_get r' h2
      exact ih j x y ex ey (A := A.in1) (by show A.units + 1 + n < cLine; omega) I rx ry
    rw [show us.toArray.size = xs.length by simp; omega] at z
    exact .of_refs ne z
  | @lstN n a b xs ys ne ha hb hl =>
    intro A u v hu I ru rv
    cases (show u = Value.ref _ from ru)
    cases (show v = Value.ref _ from rv)
    obtain ⟨us, r, pl, _⟩ := I.list ha
    obtain ⟨vs, r', pl', _⟩ := I.list hb
    have l1 := r.length
    have l2 := r'.length
    exact .of_refs ne (SeqAt.RcAt.lists_lengths pl.isList pl'.isList (by simp; omega) (by omega))
  | @tup n a b xs ys e ne ha hb hi ih =>
    intro A u v hu I ru rv
    cases (show u = Value.ref _ from ru)
    cases (show v = Value.ref _ from rv)
    obtain ⟨us, r, pl, _⟩ := I.tuple ha
    obtain ⟨vs, r', pl', _⟩ := I.tuple hb
    have l1 := r.length
    have l2 := r'.length
    have z := SeqAt.RcAt.tuples (A := A) (e := e) pl pl' (by omega) fun j h1 h2 => by
      obtain ⟨x, ex, rx⟩ := at_get r h1
      obtain ⟨y, ey, ry⟩ := at_get r' h2
      exact ih j x y ex ey (A := A.in1) (by show A.units + 1 + n < cLine; omega) I rx ry
    rw [show us.toArray.size = xs.length by simp; omega, show vs.toArray.size = ys.length by simp; omega] at z
    exact .of_refs ne z
noncomputable def rEqD (K : PySem.W.Frag) (neg : Bool) : R2 := fun x y H Q => ∃ n b, n ≤ 100 ∧ EqD K H n x y b ∧ (∃ a c, x = .ref a ∧ y = .ref c ∧ a ≠ c) ∧ Q (.bl (if neg then !b else b)) H
theorem op_eqD (hu : X.A.units + 100 < cLine) : OpR X (compareOp .Eq) (rEqD X.K false) := by
  intro pins s σ H x y u v Q I ru rv h
  obtain ⟨n, b, hn, d, ⟨a, c, rfl, rfl, hne⟩, q⟩ := h
  cases (show u = Value.ref _ from ru)
  cases (show v = Value.ref _ from rv)
  cases d with
  | flat fx _ => cases fx
  | same => exact absurd rfl hne
  | @lst n _ _ xs ys e ne ha hb hl hi =>
    obtain ⟨us, r, pl, _⟩ := I.list ha
    obtain ⟨vs, r', pl', _⟩ := I.list hb
    have l1 := r.length
    have l2 := r'.length
    refine SeqAt.eq_listAt (e := e) pl.isList pl'.isList (by simp; omega) (by omega) (fun j h1 h2 => ?_) ⟨.bl _, H, I, rfl, ?_⟩
    · obtain ⟨x, ex, rx⟩ := at_get r h1
      obtain ⟨y, ey, ry⟩ := at_get r' h2
      exact (hi j x y ex ey).at_ (A := X.A.in1) (by show X.A.units + 1 + n < cLine; omega) I rx ry
    · rw [show us.toArray.size = xs.length by simp; omega]; exact q
  | @lstN n _ _ xs ys ne ha hb hl =>
    obtain ⟨us, r, pl, _⟩ := I.list ha
    obtain ⟨vs, r', pl', _⟩ := I.list hb
    have l1 := r.length
    have l2 := r'.length
    exact SeqAt.eq_list_lengthsAt pl.isList pl'.isList (by simp; omega) (by omega) ⟨.bl false, H, I, rfl, q⟩
  | @tup n _ _ xs ys e ne ha hb hi =>
    obtain ⟨us, r, pl, _⟩ := I.tuple ha
    obtain ⟨vs, r', pl', _⟩ := I.tuple hb
    have l1 := r.length
    have l2 := r'.length
    refine SeqAt.eq_tupleAt (e := e) pl pl' (by omega) (fun j h1 h2 => ?_) ⟨.bl _, H, I, rfl, ?_⟩
    · obtain ⟨x, ex, rx⟩ := at_get r h1
      obtain ⟨y, ey, ry⟩ := at_get r' h2
      exact (hi j x y ex ey).at_ (A := X.A.in1) (by show X.A.units + 1 + n < cLine; omega) I rx ry
    · rw [show us.toArray.size = xs.length by simp; omega, show vs.toArray.size = ys.length by simp; omega]; exact q
theorem op_neD (hu : X.A.units + 100 < cLine) : OpR X (compareOp .NotEq) (rEqD X.K true) := by
  intro pins s σ H x y u v Q I ru rv h
  obtain ⟨n, b, hn, d, ⟨a, c, rfl, rfl, hne⟩, q⟩ := h
  cases (show u = Value.ref _ from ru)
  cases (show v = Value.ref _ from rv)
  cases d with
  | flat fx _ => cases fx
  | same => exact absurd rfl hne
  | @lst n _ _ xs ys e ne ha hb hl hi =>
    obtain ⟨us, r, pl, _⟩ := I.list ha
    obtain ⟨vs, r', pl', _⟩ := I.list hb
    have l1 := r.length
    have l2 := r'.length
    refine SeqAt.RcNeAt.lists (e := e) pl.isList pl'.isList (by simp; omega) (by omega) (fun j h1 h2 => ?_) _ _ _ _ ⟨.bl _, H, I, rfl, ?_⟩
    · obtain ⟨x, ex, rx⟩ := at_get r h1
      obtain ⟨y, ey, ry⟩ := at_get r' h2
      exact (hi j x y ex ey).at_ (A := X.A.in1) (by show X.A.units + 1 + n < cLine; omega) I rx ry
    · rw [show us.toArray.size = xs.length by simp; omega]; exact q
  | @lstN n _ _ xs ys ne ha hb hl =>
    obtain ⟨us, r, pl, _⟩ := I.list ha
    obtain ⟨vs, r', pl', _⟩ := I.list hb
    have l1 := r.length
    have l2 := r'.length
    exact SeqAt.RcNeAt.lists_lengths pl.isList pl'.isList (by simp; omega) (by omega) _ _ _ _ ⟨.bl true, H, I, rfl, q⟩
  | @tup n _ _ xs ys e ne ha hb hi =>
    obtain ⟨us, r, pl, _⟩ := I.tuple ha
    obtain ⟨vs, r', pl', _⟩ := I.tuple hb
    have l1 := r.length
    have l2 := r'.length
    refine SeqAt.RcNeAt.tuples (e := e) pl pl' (by omega) (fun j h1 h2 => ?_) _ _ _ _ ⟨.bl _, H, I, rfl, ?_⟩
    · obtain ⟨x, ex, rx⟩ := at_get r h1
      obtain ⟨y, ey, ry⟩ := at_get r' h2
      exact (hi j x y ex ey).at_ (A := X.A.in1) (by show X.A.units + 1 + n < cLine; omega) I rx ry
    · rw [show us.toArray.size = xs.length by simp; omega, show vs.toArray.size = ys.length by simp; omega]; exact q
theorem hu100 {A : Around} {k : Nat} (hr : Room k A) : A.units + 100 < cLine := Nat.lt_of_le_of_lt (by omega) hr.un
end
end L2
set_option Elab.async false
set_option linter.all false
set_option maxRecDepth 100000
set_option maxHeartbeats 4000000
namespace L2
open PySem PySem.Spec PyProof.Rows
section
variable {X : Cx}
end
section
variable {X : Cx} {pins : List (Addr × Obj)} {σ : St} {H : Hp} {s : Shared} {h' : Heap}
theorem Inv.trackO {e : Addr} {o' : HO} (I : Inv X pins σ H s) (o : Ours X pins H e) (new : ObjOk X.prog X.w (upd H e o') s.heap e o') : Inv X pins σ (upd H e o') s := by
  have ne : ∀ b u, H b = some u → b ≠ e := fun b u q z => by rw [z, o.free] at q; cases q
  refine ⟨I.ok, I.os, I.bare, ⟨I.base.keep, I.base.slot, fun b ob q n hx => ?_, I.base.there, fun b xs q => ?_, fun b ob u q => ?_, fun b ps q => ?_⟩, I.loc, I.cell, ?_, fun x c q => ?_, fun p hp => ?_, fun b u q => ?_, I.len⟩
  · rw [upd_ne (fun z => by rw [z, o.new] at q; cases q)]; exact I.base.free b ob q n hx
  · have := I.base.tups b xs q
    rw [upd_ne (ne _ _ this)]; exact this
  · have := I.base.frzs b ob u q
    rw [upd_ne (ne _ _ this)]; exact this
  · obtain ⟨m, z⟩ := I.base.tbls b ps q
    exact ⟨m, by rw [upd_ne (ne _ _ z)]; exact z⟩
  · rw [upd_ne (Ne.symm o.loc)]; exact I.free
  · rw [upd_ne (o.cell x c q)]; exact I.freeC x c q
  · obtain ⟨z, n, r⟩ := I.pin p hp
    exact ⟨z, by rw [upd_ne (o.pin p hp)]; exact n, r⟩
  · by_cases z : b = e
    · subst z; rw [upd_same] at q; cases q; exact new
    · rw [upd_ne z] at q
      exact (I.hok b u q).stay (fun _ _ _ x => x) (fun c x => by rw [upd_ne (ne _ _ x)]; exact x) fun c xs x => by rw [upd_ne (ne _ _ x)]; exact x
theorem Inv.turned2 {t' : Nat} {e it : Addr} (I : Inv X pins σ H s) (k : ∀ b o, b ≠ e → b ≠ it → s.heap.get? b = some o → h'.get? b = some o) (he : ∃ o, h'.get? e = some o) (hi : ∃ o, h'.get? it = some o) (f1 : FpOk X pins H e) (f2 : FpOk X pins H it) :
    Inv X pins σ H { s with heap := h', toks := t' } := by
  have nit : ∀ b u, H b = some u → b ≠ e ∧ b ≠ it := fun b u q => ⟨fun z => (by rw [z, f1.1] at q; cases q), fun z => (by rw [z, f2.1] at q; cases q)⟩
  have sp : ∀ b, b ∉ [e, it] → b ≠ e ∧ b ≠ it := fun b hb => ⟨fun z => hb (by simp [z]), fun z => hb (by simp [z])⟩
  refine I.step (g' := s.gens) (d' := s.drawn) (ch := [e, it]) (fun b hb => ?_) (fun b o _ _ hc q _ => k b o (sp b hc).1 (sp b hc).2 q) (fun b o _ _ hc q _ => ⟨o.slots, k b o (sp b hc).1 (sp b hc).2 q⟩) (fun _ _ _ _ n => n)
    (fun b o hc q => ⟨o, k b o (sp b hc).1 (sp b hc).2 q⟩) (fun _ _ q => q) (fun _ _ _ q => q) (fun b ps q => ⟨#[], by rw [q]; simp⟩) (fun m hm => ?_) (fun b u q => ?_) I.bare
  · rcases List.mem_cons.mp hb with z | z
    · rw [z]; exact ⟨f1.2.2.2.1, f1.2.1, f1.2.2.2.2.1, f1.2.2.2.2.2⟩
    · rw [show b = it by simpa using z]; exact ⟨f2.2.2.2.1, f2.2.1, f2.2.2.2.2.1, f2.2.2.2.2.2⟩
  · obtain ⟨o, es, ep, ho, r⟩ := hm
    exact ⟨o, es, ep, k _ o (Ne.symm f1.2.1) (Ne.symm f2.2.1) ho, r⟩
  · refine (I.hok b u q).stay (fun c v hc q' => ?_) (fun _ q => q) fun _ _ q => q
    have : c ≠ e ∧ c ≠ it := by
      rcases hc with z | z
      · rw [z]; exact nit b u q
      · exact nit c _ z
    exact k c v this.1 this.2 q'
end
noncomputable def Ite (K : PySem.W.Frag) (l : Addr) : It :=
  ⟨fun i H => ∃ xs x, SqL K H l xs ∧ xs[i]? = some x, fun i H v H' => ∃ T x, H T = none ∧ (∀ xs, SqL K H l xs → xs[i]? = some x) ∧ v = .ref T ∧ H' = upd H T (.tup [.int i, x]), fun i H => ∃ xs, SqL K H l xs ∧ xs.length ≤ i⟩
theorem turn_enum {P : Program} {w : World} {K : PySem.W.Frag} {elts : List Expr} {k0 : Nat} {tp : Pos} (e it l : Addr) (hei : e ≠ it) :
    Turn P w K (.Tuple elts k0 tp) (Ite K l) [e, it] e (fun i h => (∃ old, IsEnum h e it i old) ∧ h.IsListIter it l i) where
  mem := by simp
  obj := fun i h st b hb => by
    obtain ⟨⟨old, he⟩, o, ho, c, d⟩ := st
    rcases List.mem_cons.mp hb with z | z
    · rw [z]
      exact ⟨_, he, fun v z => by
        have z' : Data.fields _ = Data.cell v := z
        cases z'⟩
    · rw [show b = it by simpa using z]
      exact ⟨o, ho, fun v z => by rw [d] at z; cases z⟩
  keep := fun i h h' st k => ⟨let ⟨old, he⟩ := st.1; ⟨old, k e (by simp) _ he⟩, st.2.at fun o q => k it (by simp) o q⟩
  item := by
    intro X hP hw hK hc i pins s σ H E I hf st hg
    subst hP hw hK
    obtain ⟨xs, x, hq, hx⟩ := hg
    obtain ⟨its, rv, p, hz⟩ := I.list hq
    obtain ⟨u, hu, ru⟩ := rv.get hx
    obtain ⟨⟨old, he⟩, hit⟩ := st
    have fe := hf e (by simp)
    have fi := hf it (by simp)
    refine wpAny_pyNext_enum_item he hit p.isList (x := u) (by simpa using hu) hei fun h1 ho hit1 hT hsz hk => ?_
    refine ⟨_, rfl, wpAny_letOwnedTupleGo_enum ho fun h2 he2 sb => ?_⟩
    have nT : s.heap.get? s.heap.objs.size = none := Heap.get?_none_of_le (Nat.le_refl _)
    have elt : e < s.heap.objs.size := Heap.lt_size he
    have ilt : it < s.heap.objs.size := by obtain ⟨_, q, _⟩ := hit; exact Heap.lt_size q
    have hit2 : h2.IsListIter it l (i + 1) := hit1.at fun o q => (sb.2 it (Ne.symm hei)).trans q
    have k2 : ∀ b o, b ≠ e → b ≠ it → s.heap.get? b = some o → h2.get? b = some o := fun b o b1 b2 q => (sb.2 b b1).trans (hk b o b1 b2 q)
    have I2 : Inv X pins σ H { s with heap := h2, toks := s.toks + 1 } := I.turned2 k2 ⟨_, he2⟩ (by obtain ⟨o, q, _⟩ := hit2; exact ⟨o, q⟩) fe fi
    have oT : Ours X pins H s.heap.objs.size := by
      have fT : FpOk X pins H s.heap.objs.size := I.fpOk (Nat.le_refl _) (I.hok.fresh (Nat.le_refl _))
      exact ⟨Heap.get?_none_of_le I.sz, fT.1, fT.2.1, fT.2.2.2.2.1, fT.2.2.2.2.2⟩
    have hT2 : h2.get? s.heap.objs.size = some { cls := .type "tuple", data := .seq #[.int i s.toks, u] } := (sb.2 _ (Nat.ne_of_gt elt)).trans hT
    have I3 := I2.trackO (o' := .tup [.int i, x]) oT ⟨sz (n := 2) (by decide), [.int i s.toks, u], .cons ⟨_, rfl⟩ (.cons ru .nil), _, hT2, rfl, _, rfl⟩
    refine ⟨.ref s.heap.objs.size, _, I3, rfl, ⟨_, x, oT.free, fun ys hy => by rw [I.list_inj hy hq]; exact hx, rfl, rfl⟩, ⟨⟨_, by simpa using he2⟩, hit2⟩, fun b hb => ?_⟩
    rcases List.mem_cons.mp hb with z | z
    · rw [z, upd_ne (Nat.ne_of_lt elt)]; exact fe.1
    · rw [show b = it by simpa using z, upd_ne (Nat.ne_of_lt ilt)]; exact fi.1
  done := by
    intro X hP hw hK hc i pins s σ H E I hf st hg
    subst hP hw hK
    obtain ⟨xs, hq, hx⟩ := hg
    obtain ⟨its, rv, p, hz⟩ := I.list hq
    obtain ⟨⟨old, he⟩, hit⟩ := st
    have hl := rv.length
    obtain ⟨f0, f1, f2, f3, f4, f5⟩ := hf it (by simp)
    refine wpAny_pyNext_enum_end (I.ok.hd hc) he hit p.isList (Array.getElem?_eq_none (by simp; omega)) fun h2 eb => ⟨rfl, ?_⟩
    exact I.turned (t' := s.toks) (fun b o hb q => eb b o hb q) f0 f1 f3 f4 f5
  self := fun _ _ _ _ _ st h => by
    obtain ⟨⟨old, he⟩, _⟩ := st
    exact wpAny_pyIter_enum he h
noncomputable def iEnum (K : PySem.W.Frag) (ta : TA) : TI := fun σ H R => ta σ H fun vs H1 => ∃ l, vs = [.ref l] ∧ (∃ xs, SqL K H1 l xs) ∧ R (Ite K l) H1
section
variable {X : Cx}
theorem pi_enum {elts : List Expr} {k0 : Nat} {tp : Pos} {a : Expr} {ta : TA} {p pos : Pos} (hg : Gl X "enumerate") (hm : X.mg "enumerate" = none) (ha : PA X [a] ta) (hs : starEach [a] X.env = [(false, eval a X.env)] := by rfl) :
    PI X (.Tuple elts k0 tp) (.Call (.Name "enumerate" p) [a] [] pos) (iEnum X.K ta) := by
  intro pins s σ H R I h
  refine Call_ (ld_blt I hg hm boot_enumerate (PyProof.Rows.callWith_type1 (thn (ha pos pins s σ H _ I h) fun us s1 ⟨vs, H1, I1, r1, q1⟩ => ?_) hs rfl))
  obtain ⟨l, rfl, ⟨xs, hq⟩, q⟩ := q1
  obtain ⟨u, rfl, ru⟩ := vals1 r1
  cases ru
  obtain ⟨its, rv, pl, hz⟩ := I1.list hq
  refine call_enumerate_list pl.isList fun h2 he hit hsz hk => ?_
  have I2 : Inv X pins σ H1 { s1 with heap := h2 } := I1.kept (t' := s1.toks) hk
  refine wpAny_pyIter_enum he ⟨_, [s1.heap.objs.size + 1, s1.heap.objs.size], _, _, H1, rfl, I2, turn_enum _ s1.heap.objs.size l (Nat.succ_ne_self _), ⟨⟨_, he⟩, hit⟩, fun b hb => ?_, q⟩
  rcases List.mem_cons.mp hb with z | z
  · rw [z]; exact I1.fpOk (Nat.le_succ _) (I1.hok.fresh (Nat.le_succ _))
  · rw [show b = s1.heap.objs.size by simpa using z]; exact I1.fpOk (Nat.le_refl _) (I1.hok.fresh (Nat.le_refl _))
theorem for_enum {K : PySem.W.Frag} {l : Addr} {xs : List V} {g : TG} {tb : TS} {D : Ends} {σ : St} {H : Hp} (Pv : Nat → St → Hp → Prop) (h0 : Pv 0 σ H) (hl : ∀ i σ H, i ≤ xs.length → Pv i σ H → SqL K H l xs)
    (hs : ∀ i x σ H T, xs[i]? = some x → Pv i σ H → H T = none → g (.ref T) σ (upd H T (.tup [.int i, x])) fun σ2 H2 => tb { D with nx := Pv (i + 1), ct := Pv (i + 1), bk := D.nx } σ2 H2) (hd : ∀ σ H, Pv xs.length σ H → D.nx σ H) :
    ∃ W : Nat → Nat → St → Hp → Prop, (∃ m, W 0 m σ H) ∧ ∀ i m σ H, W i m σ H →
      ((Ite K l).stop i H ∧ D.nx σ H) ∨ ((Ite K l).go i H ∧ ∃ N : St → Hp → Prop, (∀ σ' H', N σ' H' → ∃ m', m' < m ∧ W (i + 1) m' σ' H') ∧ ∀ x H', (Ite K l).yld i H x H' → g x σ H' fun σ2 H2 => tb { D with nx := N, ct := N, bk := D.nx } σ2 H2) := by
  refine ⟨fun i m σ H => m = xs.length - i ∧ i ≤ xs.length ∧ Pv i σ H, ⟨xs.length, by simp, Nat.zero_le _, h0⟩, ?_⟩
  rintro i m σ H ⟨rfl, hi, p⟩
  have q := hl i σ H hi p
  by_cases hlt : i < xs.length
  · refine .inr ⟨⟨xs, _, q, List.getElem?_eq_getElem hlt⟩, Pv (i + 1), fun σ' H' p' => ⟨xs.length - (i + 1), by omega, rfl, hlt, p'⟩, fun v H' y => ?_⟩
    obtain ⟨T, x, nT, hx, rfl, rfl⟩ := y
    exact hs i x σ H T (hx xs q) p nT
  · have e : i = xs.length := by omega
    subst e
    exact .inl ⟨⟨xs, q, Nat.le_refl _⟩, hd σ H p⟩
end
end L2
set_option Elab.async false
set_option linter.all false
set_option maxRecDepth 100000
set_option maxHeartbeats 4000000
namespace Ck
open PySem L2
inductive Tree where
  | int (i : Int)
  | lst (l : List Tree)
  | tup (l : List Tree)
mutual
noncomputable def Rep (H : Hp) : Tree → V → Prop
  | .int i, v => v = .int i
  | .lst ts, v => ∃ a xs, v = .ref a ∧ H a = some (.lst xs) ∧ ts.length ≤ 1000000 ∧ RepL H ts xs
  | .tup ts, v => ∃ a xs, v = .ref a ∧ H a = some (.tup xs) ∧ ts.length ≤ 1000000 ∧ RepL H ts xs
noncomputable def RepL (H : Hp) : List Tree → List V → Prop
  | [], xs => xs = []
  | t :: ts, xs => ∃ v vs, xs = v :: vs ∧ Rep H t v ∧ RepL H ts vs
end
mutual
noncomputable def dep : Tree → Nat
  | .int _ => 0
  | .lst ts => depL ts + 1
  | .tup ts => depL ts + 1
noncomputable def depL : List Tree → Nat
  | [] => 0
  | t :: ts => max (dep t) (depL ts)
end
mutual
theorem Rep.same {H H' : Hp} (s : Same H H') : ∀ (t : Tree) {v : V}, Rep H t v → Rep H' t v
  | .int i, v, h => by unfold Rep at h ⊢; exact h
  | .lst ts, v, h => by
    unfold Rep at h ⊢
    obtain ⟨a, xs, e, ha, hl, r⟩ := h
    exact ⟨a, xs, e, s _ _ ha, hl, RepL.same s ts r⟩
  | .tup ts, v, h => by
    unfold Rep at h ⊢
    obtain ⟨a, xs, e, ha, hl, r⟩ := h
    exact ⟨a, xs, e, s _ _ ha, hl, RepL.same s ts r⟩
theorem RepL.same {H H' : Hp} (s : Same H H') : ∀ (ts : List Tree) {xs : List V}, RepL H ts xs → RepL H' ts xs
  | [], xs, h => by unfold RepL at h ⊢; exact h
  | t :: ts, xs, h => by
    unfold RepL at h ⊢
    obtain ⟨v, vs, e, r, rs⟩ := h
    exact ⟨v, vs, e, Rep.same s t r, RepL.same s ts rs⟩
end
noncomputable abbrev Pair := Int × Int
noncomputable def Prs (H : Hp) (xs : List V) (ps : List Pair) : Prop := Paired (fun (v : V) (p : Pair) => ∃ t, v = .ref t ∧ H t = some (.tup [.int p.1, .int p.2])) xs ps
theorem Prs.same {H H' : Hp} {xs : List V} {ps : List Pair} (h : Prs H xs ps) (s : Same H H') : Prs H' xs ps := Paired.mapP h fun v p ⟨t, e, q⟩ => ⟨t, e, s _ _ q⟩
theorem Prs.length {H : Hp} {xs : List V} {ps : List Pair} (h : Prs H xs ps) : xs.length = ps.length := Paired.length h
theorem Prs.get {H : Hp} : ∀ {xs : List V} {ps : List Pair}, Prs H xs ps → ∀ {i : Nat} {x : V}, xs[i]? = some x → ∃ p t, ps[i]? = some p ∧ x = .ref t ∧ H t = some (.tup [.int p.1, .int p.2])
  | _, _, .nil, i, x, e => by cases e
  | _, _, .cons r t, 0, x, e => by
    obtain ⟨a, e1, e2⟩ := r
    rw [List.getElem?_cons_zero] at e
    cases e
    exact ⟨_, a, rfl, e1, e2⟩
  | _, _, .cons r t, i + 1, x, e => by
    obtain ⟨p, a, h1, h2, h3⟩ := Prs.get t (i := i) (by simpa using e)
    exact ⟨p, a, by simpa using h1, h2, h3⟩
theorem Prs.snoc {H : Hp} : ∀ {xs : List V} {ps : List Pair} {t : Addr} {p : Pair}, Prs H xs ps → H t = some (.tup [.int p.1, .int p.2]) → Prs H (xs ++ [.ref t]) (ps ++ [p])
  | _, _, t, p, .nil, h => .cons ⟨t, rfl, h⟩ .nil
  | _, _, t, p, .cons r s, h => .cons r (Prs.snoc s h)
theorem Prs.updL {H : Hp} {xs : List V} {ps : List Pair} {a : Addr} {l : List V} (h : Prs H xs ps) (ha : H a = some (.lst l)) (o : HO) : Prs (upd H a o) xs ps :=
  Paired.mapP h fun v p ⟨t, e, q⟩ => ⟨t, e, (upd_ne (ne_of q ha (by intro z; cases z))).trans q⟩
theorem Prs.updN {H : Hp} {xs : List V} {ps : List Pair} {a : Addr} (h : Prs H xs ps) (ha : H a = none) (o : HO) : Prs (upd H a o) xs ps :=
  Paired.mapP h fun v p ⟨t, e, q⟩ => ⟨t, e, (upd_ne (ne_of_none q ha)).trans q⟩
noncomputable def PLs (H : Hp) (a : Addr) (ps : List Pair) : Prop := ∃ xs, H a = some (.lst xs) ∧ Prs H xs ps
theorem PLs.same {H H' : Hp} {a : Addr} {ps : List Pair} (h : PLs H a ps) (s : Same H H') : PLs H' a ps := let ⟨xs, e, r⟩ := h; ⟨xs, s _ _ e, r.same s⟩
theorem PLs.len {H : Hp} {a : Addr} {ps : List Pair} (h : PLs H a ps) : ∃ xs, H a = some (.lst xs) ∧ xs.length = ps.length ∧ Prs H xs ps := let ⟨xs, e, r⟩ := h; ⟨xs, e, r.length, r⟩
end Ck
namespace L2
open PySem
theorem kit_tuple_tuple {K : PySem.W.Frag} : PySem.W.kitOne K (.type "tuple") (.type "tuple") = some true := by rfl
end L2
set_option Elab.async false
set_option linter.all false
set_option maxRecDepth 100000
set_option maxHeartbeats 4000000
namespace Ck
open PySem L2
end Ck
set_option Elab.async false
set_option linter.all false
set_option maxRecDepth 100000
set_option maxHeartbeats 4000000
namespace L2
open PySem PySem.Spec PyProof.Rows PySem.SeqAt
section
variable {X : Cx}
theorem pg_tupK {K : PySem.W.Frag} {es : List Expr} {k : Nat} {t : TGs} {n : Nat} {pos : Pos} (hK : X.K = K) (hc : X.calm = true) (h : PGs X es t)
    (hn : (assignEach es X.env).length = n := by rfl) (hst : (assignEach es X.env).findIdx? (·.1) = none := by rfl) : PG X (.Tuple es k pos) (gTup K n t) := by
  subst hK
  exact pg_tup hc h hn hst
theorem comp_walk {K : PySem.W.Frag} {a : Addr} {xs : List V} {g : TG} {tt : TT} {te : TE} {σ0 : St} {H : Hp} {D : Addr} {Q : VK} (Pv : Nat → List V → Hp → Prop) (hz : xs.length ≤ sizeLine)
    (h0 : Pv 0 [] (upd H D (.lst []))) (hl : ∀ i ys H', i ≤ xs.length → Pv i ys H' → SqL K H' a xs ∧ ys.length ≤ i)
    (hs : ∀ (i : Nat) (x : V) (ys : List V) (H' : Hp) (R : VK) (R0 : Hp → Prop), xs[i]? = some x → Pv i ys H' → (∀ v H3, H3 D = some (.lst ys) → Pv (i + 1) (ys ++ [v]) (upd H3 D (.lst (ys ++ [v]))) → R v H3) → (∀ H3, Pv (i + 1) ys H3 → R0 H3) →
      g x σ0 H' fun σ2 H2 => Ext σ0 σ2 ∧ tt σ2 H2 fun b H3 => if b = true then te σ2 H3 R else R0 H3)
    (hq : ∀ ys H', Pv xs.length ys H' → Q (.ref D) H') :
    CompW (Itl K a) g tt te σ0 D Q H := by
  refine ⟨fun i m ys H' => m = xs.length - i ∧ i ≤ xs.length ∧ Pv i ys H', ⟨xs.length, by simp, Nat.zero_le _, h0⟩, ?_⟩
  rintro i m ys H' ⟨rfl, hi, p⟩
  obtain ⟨sq, ly⟩ := hl i ys H' hi p
  by_cases hlt : i < xs.length
  · refine .inr ⟨⟨xs, xs[i], sq, by simp [hlt]⟩, fun x H'' y => ?_⟩
    obtain ⟨e, y⟩ := y
    subst e
    have ex := y xs sq
    refine hs i x ys _ _ _ ex p (fun v H3 hD p' => ⟨hD, by omega, xs.length - (i + 1), by omega, rfl, hlt, p'⟩) fun H3 p' => ⟨xs.length - (i + 1), by omega, rfl, hlt, p'⟩
  · have e : i = xs.length := by omega
    subst e
    exact .inl ⟨⟨xs, sq, Nat.le_refl _⟩, hq ys H' p⟩
end
end L2
namespace Ck
open PySem L2
end Ck
namespace Ck
open PySem L2
structure Flds (fs : List (Str × V)) (w : Str) (l : Int) : Prop where
  word : fs.lookup ("word" : Str) = some (.str w)
  least : fs.lookup ("least" : Str) = some (.int l)
  no : ∀ m : Str, m ≠ ("word" : Str) → m ≠ ("least" : Str) → fs.lookup m = none
theorem flds_mk (w : Str) (l : Int) : Flds (putF ("least" : Str) (.int l) (putF ("word" : Str) (.str w) [])) w l :=
  ⟨by rw [lookup_putF, if_neg (by decide), lookup_putF, if_pos rfl], by rw [lookup_putF, if_pos rfl], fun m a b => by rw [lookup_putF, if_neg b, lookup_putF, if_neg a]; rfl⟩
noncomputable def up (d : Int) (p : Pair) : Pair := (p.1 + d, p.2 + d)
end Ck
namespace Ck
open PySem L2
theorem flat_ints (ns : List Int) : (ns.map V.int).all flatV = true := by
  rw [List.all_eq_true]
  intro x hx
  obtain ⟨n, _, rfl⟩ := List.mem_map.mp hx
  rfl
end Ck
namespace Ck
open PySem L2
end Ck
set_option Elab.async false
set_option linter.all false
set_option maxRecDepth 100000
set_option maxHeartbeats 4000000
namespace Ck
open PySem L2
noncomputable def stF : Nat → Int → List Int → Bool
  | _, _, [] => true
  | k, a, n :: ns => if n < a ∨ (k : Int) < n then false else stF (k + 1) n ns
theorem stF_nil (k : Nat) (a : Int) : stF k a [] = true := rfl
theorem stF_bad {k : Nat} {a n : Int} {ns : List Int} (h : n < a ∨ (k : Int) < n) : stF k a (n :: ns) = false := by unfold stF; rw [if_pos h]
theorem stF_go {k : Nat} {a n : Int} {ns : List Int} (h : ¬ (n < a ∨ (k : Int) < n)) : stF k a (n :: ns) = stF (k + 1) n ns := by conv => lhs; unfold stF; rw [if_neg h]
inductive St : List Int → Int → Prop
  | nil : St [] 0
  | snoc {rs : List Int} {a n : Int} : St rs a → a ≤ n → n ≤ (rs.length : Int) → St (rs ++ [n]) n
theorem St.run {rs : List Int} {a : Int} (h : St rs a) : ∀ ys, stF 0 0 (rs ++ ys) = stF rs.length a ys := by
  induction h with
  | nil => intro ys; rfl
  | @snoc rs a n _ h1 h2 ih =>
    intro ys
    rw [List.append_assoc, ih]
    show stF rs.length a (n :: ys) = _
    rw [stF_go (by omega)]
    simp
theorem St.ok {rs : List Int} {a : Int} (h : St rs a) : stF 0 0 rs = true := by
  have := h.run []
  rw [List.append_nil] at this
  exact this
theorem St.low {rs : List Int} {a : Int} (h : St rs a) : 0 ≤ a := by
  induction h with
  | nil => exact Int.le_refl _
  | snoc _ h1 _ ih => omega
theorem St.top {rs : List Int} {a : Int} (h : St rs a) : a ≤ (rs.length : Int) := by
  induction h with
  | nil => exact Int.le_refl _
  | snoc _ h1 h2 ih => rw [List.length_append]; simp; omega
theorem get_drop {ns : List Int} {i : Nat} (h : i < ns.length) : ns.drop i = ns.getD i 0 :: ns.drop (i + 1) := by
  rw [List.drop_eq_getElem_cons h, List.getD_eq_getElem?_getD, List.getElem?_eq_getElem h]
  rfl
end Ck
set_option Elab.async false
set_option linter.all false
set_option maxRecDepth 100000
set_option maxHeartbeats 4000000
namespace Ck
open PySem L2
theorem clo_step {a : List Nat} {p d : Nat} (hp : p < a.length) (h : clo d (a.drop p) = true) : (a[p] = 40 ∧ clo (d + 1) (a.drop (p + 1)) = true) ∨ (a[p] = 41 ∧ ∃ e, d = e + 1 ∧ clo e (a.drop (p + 1)) = true) := by
  rw [List.drop_eq_getElem_cons hp] at h
  by_cases h1 : a[p] = 40
  · rw [h1, clo_up] at h; exact .inl ⟨h1, h⟩
  · by_cases h2 : a[p] = 41
    · rw [h2] at h
      cases d with
      | zero => rw [clo_under] at h; cases h
      | succ d => rw [clo_down] at h; exact .inr ⟨h2, d, rfl, h⟩
    · rw [clo_other h1 h2] at h; cases h
theorem clo_end {a : List Nat} {p d : Nat} (hp : a.length ≤ p) (h : clo d (a.drop p) = true) : d = 0 := by
  rw [List.drop_eq_nil_of_le hp, clo_nil] at h
  simpa using h
theorem clo_ends {t : List Nat} (h : clo 0 t = true) : t.length = 2 * t.count 40 := by
  obtain ⟨u, g⟩ := good_of_clo t 0 h
  have l := g.length
  have c : t.count 40 = u := by
    obtain ⟨h', u', bg, _, e⟩ := prefix_beg (n := u) (by simpa using g) t.length (Nat.le_refl _)
    have gd : Good u' (u' + h') (t.drop t.length) := by assumption
    rw [List.drop_length] at gd
    have := gd.length
    rw [List.take_length] at e
    simp at this
    omega
  omega
end Ck
namespace Ck
open PySem L2
theorem int41 (c : Nat) : (if decide (V.str ⟨#[c]⟩ = V.str (Str.ofString ")")) = true then (1 : Int) else 0) = if c = 41 then 1 else 0 := by
  rw [dec41]
  by_cases h : c = 41 <;> simp [h]
end Ck
set_option Elab.async false
set_option linter.all false
set_option maxRecDepth 100000
set_option maxHeartbeats 4000000
namespace L2
open PySem PySem.Spec PyProof.Rows
theorem bb_sorted : bootBuiltins "sorted" = some (.builtin "sorted") := by decide +kernel
theorem bb_all : bootBuiltins "all" = some (.builtin "all") := by decide +kernel
theorem vals_intsA : ∀ {us : List Value} {ns : List Int}, IntsAre us ns → Vals (ns.map V.int) us
  | _, _, .nil => .nil
  | _, _, .cons n t h => .cons ⟨t, rfl⟩ (vals_intsA h)
section
variable {X : Cx}
theorem call_sorted : CallR X (.builtin "sorted") (fun xs H Q => ∃ (p : Addr) (ns : List Int), xs = [.ref p] ∧ SqL X.K H p (ns.map V.int) ∧ ns.length < 64 ∧ ∀ (q : Addr) (ms : List Int), H q = none → ms.Perm ns → ms.Pairwise (· ≤ ·) → Q (.ref q) (upd H q (.lst (ms.map V.int)))) := by
  intro pins s σ H xs us Q I r h
  obtain ⟨p, ns, rfl, hl, h64, q⟩ := h
  obtain ⟨u, rfl, ru⟩ := vals1 r
  cases ru
  obtain ⟨its, r', pl, hz⟩ := I.list hl
  have hi : IntsAre its ns := intsAre_of r'
  refine sorted_ints pl.isList hi (by rw [hi.length]; exact h64) fun out ms ho hp hs => ?_
  obtain ⟨e, he⟩ := sortedAll_at s.heap its out
  have lm : (ms.map V.int).length ≤ sizeLine := by rw [List.length_map, hp.length_eq]; exact sz (by omega)
  exact ⟨.ref _, _, I.laid (t' := s.toks) (o := .lst (ms.map V.int)) (fun b u e => sortedAll_old e) (Nat.le_succ _) ⟨lm, out.toList, e, vals_intsA ho, by simpa [seqObj] using he⟩, rfl, q _ ms (I.hok.fresh (Nat.le_succ _)) hp hs⟩
theorem vals_bools {bs : List Bool} : ∀ {us : List Value}, Vals (bs.map V.bl) us → us = bs.map Value.bool := by
  induction bs with
  | nil => intro us r; rw [List.map_nil] at r; cases r; rfl
  | cons b bs ih =>
    intro us r
    rw [List.map_cons] at r
    cases r with
    | cons h t => rw [ih t, List.map_cons]; cases (show _ = Value.bool b from h); rfl
theorem all_range (bs : List Bool) : (List.range bs.length).all (fun i => bs.getD i false) = bs.all id := by
  induction bs with
  | nil => rfl
  | cons b bs ih =>
    rw [List.length_cons, List.range_succ_eq_map, List.all_cons, List.all_map, List.all_cons]
    have : ((fun i => (b :: bs).getD i false) ∘ Nat.succ) = fun i => bs.getD i false := by funext i; rfl
    rw [this, ih]
    rfl
theorem call_all (hc : X.calm = true) : CallR X (.builtin "all") (fun xs H Q => ∃ (p : Addr) (bs : List Bool), xs = [.ref p] ∧ SqL X.K H p (bs.map V.bl) ∧ Q (.bl (bs.all id)) H) := by
  intro pins s σ H xs us Q I r h
  obtain ⟨p, bs, rfl, hl, q⟩ := h
  obtain ⟨u, rfl, ru⟩ := vals1 r
  cases ru
  obtain ⟨its, r', pl, hz⟩ := I.list hl
  have ei := vals_bools r'
  have hlt : p < s.heap.objs.size := by obtain ⟨_, e, _⟩ := pl.isList; exact Heap.lt_size e
  refine call_all_walk (wpAny_pyIter_list pl.isList ⟨_, _, _, _, _, _, fun i => bs.getD i false, rfl, Walks.list (A := X.A.in1) (I.ok.hd hc) _ p (Nat.ne_of_lt hlt) its.toArray, ⟨⟨_, Heap.get?_push_size _ rfl, rfl, rfl⟩, pl.isList.push _⟩, ?_, fun h' tk hk => ⟨.bl _, H, I.kept (old_kept hk), rfl, ?_⟩⟩)
  · intro i v s' Q' E' hP hQ
    have hb : bs[i]? = some (bs.getD i false) ∧ v = .bool (bs.getD i false) := by
      have hP' : its[i]? = some v := by simpa using hP
      rw [ei, List.getElem?_map] at hP'
      cases hb : bs[i]? with
      | none => rw [hb] at hP'; cases hP'
      | some b =>
        rw [hb] at hP'
        have e1 : bs.getD i false = b := by rw [List.getD_eq_getElem?_getD, hb]; rfl
        rw [e1]
        exact ⟨rfl, (Option.some.inj hP').symm⟩
    rw [hb.2]
    exact wpAny_truthy_bool hQ
  · have e1 : its.toArray.size = bs.length := by rw [ei]; simp
    rw [e1, all_range]
    exact q
end
end L2
namespace Ck
open PySem L2
end Ck
set_option Elab.async false
set_option linter.all false
set_option maxRecDepth 100000
set_option maxHeartbeats 4000000
namespace Ck
open PySem L2
end Ck
set_option Elab.async false
set_option linter.all false
set_option maxRecDepth 100000
set_option maxHeartbeats 4000000
namespace Ck
open PySem L2
end Ck
namespace Ck
open PySem L2
noncomputable def steps (ws : List Int) : List Int := (List.range (ws.length - 1)).map fun (i : Nat) => (ws.getD (i + 1) 0 - ws.getD i 0) % ((ws.length : Int) + 1)
end Ck
set_option Elab.async false
set_option linter.all false
set_option maxRecDepth 100000
set_option maxHeartbeats 4000000
namespace L2
open PySem PySem.W
end L2
namespace Ck
open PySem L2
theorem ne_int {a b : Int} (h : a ≠ b) : ¬ V.int a = V.int b := fun z => h (by injection z)
end Ck
namespace Ck
end Ck
set_option Elab.async false
set_option linter.all false
set_option maxRecDepth 100000
set_option maxHeartbeats 4000000
namespace Ck
open PySem L2
noncomputable def inR (es : List Int) : Bool := es.all fun e => decide (0 ≤ e) && decide (e ≤ (es.length : Int))
end Ck
namespace Ck
open PySem L2
theorem dec_int (a b : Int) : decide (V.int a = V.int b) = decide (a = b) := by
  by_cases h : a = b
  · rw [decide_eq_true h, decide_eq_true (by rw [h])]
  · rw [decide_eq_false h, decide_eq_false (ne_int h)]
end Ck
namespace Ck
end Ck
namespace Ck
open PySem L2
end Ck
set_option Elab.async false
set_option linter.all false
set_option maxRecDepth 100000
set_option maxHeartbeats 4000000
namespace L2
open PySem PySem.Spec PyProof.Rows
theorem vals_get : ∀ {xs : List V} {us : List Value}, us.length = xs.length → (∀ (j : Nat) v, us[j]? = some v → ∃ x, xs[j]? = some x ∧ RelV x v) → Vals xs us
  | [], us, hl, _ => by
    have : us = [] := List.eq_nil_of_length_eq_zero hl
    subst this
    exact .nil
  | x :: xs, [], hl, _ => by simp at hl
  | x :: xs, u :: us, hl, k => by
    obtain ⟨y, e1, r⟩ := k 0 u rfl
    have : x = y := by simpa using e1
    subst this
    exact .cons r (vals_get (by simpa using hl) fun j w e => by
      obtain ⟨y, f1, f2⟩ := k (j + 1) w (by simpa using e)
      exact ⟨y, by simpa using f1, f2⟩)
noncomputable def rngV (i : Int) (n : Nat) : List V := ((List.range n).map fun (k : Nat) => i + (k : Int)).map V.int
section
variable {X : Cx}
theorem list_range {pins : List (Addr × Obj)} {σ : St} {H : Hp} {s : Shared} {Q : VK} {lo hi : Int} {t u v : Tok} {tk : Nat} (hc : X.calm = true) (I : Inv X pins σ H s) (h1 : -(2 ^ 62) ≤ lo) (h2 : lo < 2 ^ 62) (h3 : -(2 ^ 62) ≤ hi) (h4 : hi < 2 ^ 62) (hz : (hi - lo).toNat ≤ 1000000)
    (q : ∀ l, H l = none → Q (.ref l) (upd H l (.lst (rngV lo (hi - lo).toNat)))) : wpAny (model X.prog X.w) X.A (call (.type "list") [.ref s.heap.objs.size]) (EP X pins σ Q) X.xe { s with heap := s.heap.push { cls := .type "range", data := .fields #[.int lo t, .int hi u, .int 1 v] }, toks := tk } := by
  have I1 : Inv X pins σ H { s with heap := s.heap.push { cls := .type "range", data := .fields #[.int lo t, .int hi u, .int 1 v] }, toks := tk } := I.kept fun b o e => Heap.get?_push_of_some _ e
  refine call_list_range (n := (hi - lo).toNat) (I.ok.hd hc) (IsRange.new ..) (small_one h1 h2 h3 h4) (by rw [rangeSize_one]; split <;> omega) (by omega) fun h' tk' acc' c' hk he hacc => ?_
  have hl : acc'.toList.length = (rngV lo (hi - lo).toNat).length := by unfold rngV; simpa using hacc.1
  refine ⟨.ref _, _, I1.laid (t' := tk') (o := .lst (rngV lo (hi - lo).toNat)) hk (Nat.le_refl _) ⟨?_, acc'.toList, c', vals_get hl fun j w e => ?_, he⟩, rfl, q _ (I1.hok.fresh (Nat.le_refl _))⟩
  · unfold rngV
    rw [List.length_map, List.length_map, List.length_range]
    exact sz (by omega)
  · obtain ⟨t', e2⟩ := hacc.2 j w (by simpa using e)
    have hj : j < (hi - lo).toNat := by
      have := (List.getElem?_eq_some_iff.mp e).1
      rw [hl] at this
      unfold rngV at this
      simpa using this
    refine ⟨.int (lo + (j : Int)), ?_, t', by rw [e2, Int.mul_one]⟩
    unfold rngV
    rw [List.getElem?_map, List.getElem?_map, List.getElem?_range hj]
    rfl
noncomputable def tLR1 (ta : TA) : TE := fun σ H Q => ta σ H fun vs H1 => ∃ j : Int, vs = [.int j] ∧ -(2 ^ 62) ≤ j ∧ j < 2 ^ 62 ∧ j.toNat ≤ 1000000 ∧ ∀ l, H1 l = none → Q (.ref l) (upd H1 l (.lst (rngV 0 j.toNat)))
theorem pe_lr1 {a : Expr} {ta : TA} {p p2 pos pos2 : Pos} (hc : X.calm = true) (hgl : Gl X "list") (hml : X.mg "list" = none) (hg : Gl X "range") (hm : X.mg "range" = none) (ha : PA X [a] ta) (hs : starEach [a] X.env = [(false, eval a X.env)] := by rfl)
    (he : starEach [.Call (.Name "range" p) [a] [] pos] X.env = [(false, eval (.Call (.Name "range" p) [a] [] pos) X.env)] := by rfl) :
    PE X (.Call (.Name "list" p2) [.Call (.Name "range" p) [a] [] pos] [] pos2) (tLR1 ta) := by
  intro pins s σ H Q I h
  refine wpAny_Call_Name_kw (ld_blt I hgl hml bb_list ?_ (by decide) (by decide))
  refine PyProof.Rows.callWith_type1 ?_ he rfl
  rw [he]
  show wpAny _ _ (spliced ((false, eval (.Call (.Name "range" p) [a] [] pos) X.env) :: backTo pos2 [])) _ _ s
  refine Calls.spliced_cons (Call_ (ld_blt I hg hm boot_range (PyProof.Rows.callWith_type1 (thn (ha pos pins s σ H _ I h) fun us s1 ⟨vs, H1, I1, r1, q1⟩ => ?_) hs rfl)))
  obtain ⟨j, e, b1, b2, b3, q⟩ := q1
  subst e
  cases r1 with
  | cons r rr =>
    cases rr
    obtain ⟨t, rfl⟩ := r
    exact call_range_1 (Calls.spliced_nil (list_range hc I1 (by omega) (by omega) b1 b2 (by simpa using b3) (by simpa using q)))
end
end L2
namespace L2
open PySem PySem.Spec PyProof.Rows
end L2
namespace L2
open PySem PySem.Spec PyProof.Rows
end L2
set_option Elab.async false
set_option linter.all false
set_option maxRecDepth 100000
set_option maxHeartbeats 4000000
namespace Ck
open PySem L2
noncomputable def rgI (n : Nat) : List Int := (List.range n).map fun (k : Nat) => (k : Int)
theorem rgI_succ (n : Nat) : rgI (n + 1) = rgI n ++ [(n : Int)] := by unfold rgI; rw [List.range_succ, List.map_append]; rfl
theorem rgI_len (n : Nat) : (rgI n).length = n := by unfold rgI; simp
theorem rgI_lt (n : Nat) : (rgI n).Pairwise (· < ·) := by
  unfold rgI
  rw [List.pairwise_map]
  exact List.pairwise_lt_range.imp fun h => by omega
noncomputable def eachB (ns : List Int) : Bool := ns.isPerm (rgI ns.length)
theorem eachB_iff (ns : List Int) : eachB ns = true ↔ ns.Perm (rgI ns.length) := List.isPerm_iff
theorem eachB_sorted {ns ms : List Int} (hp : ms.Perm ns) (hs : ms.Pairwise (· ≤ ·)) : eachB ns = decide (ms = rgI ns.length) := by
  rw [Bool.eq_iff_iff, eachB_iff, decide_eq_true_iff]
  constructor
  · intro h
    exact List.Perm.eq_of_pairwise (le := (· ≤ ·)) (fun a b _ _ h1 h2 => Int.le_antisymm h1 h2) hs ((rgI_lt _).imp Int.le_of_lt) (hp.trans h)
  · intro h
    rw [← h]
    exact hp.symm
noncomputable def stk (row : List Int) (k p : Nat) : List Int := (rgI p).filter fun m => !decide (m ∈ row.take k)
end Ck
namespace Ck
open PySem L2
theorem eqL_ints : ∀ as bs : List Int, eqL (as.map V.int) (bs.map V.int) = decide (as = bs)
  | [], [] => rfl
  | [], b :: bs => rfl
  | a :: as, [] => rfl
  | a :: as, b :: bs => by
    rw [List.map_cons, List.map_cons]
    show (eqV (.int a) (.int b) && eqL (as.map V.int) (bs.map V.int)) = _
    rw [eqL_ints as bs]
    have e : eqV (.int a) (.int b) = decide (a = b) := by
      show (a == b) = _
      by_cases h : a = b
      · subst h; simp
      · simp [h]
    rw [e]
    by_cases h1 : a = b <;> by_cases h2 : as = bs <;> simp [h1, h2]
theorem rngV_zero (n : Nat) : rngV 0 n = (rgI n).map V.int := by
  unfold rngV rgI
  refine congrArg (List.map V.int) (List.map_congr_left fun k _ => ?_)
  show (0 : Int) + (k : Int) = (k : Int)
  omega
end Ck
set_option Elab.async false
set_option linter.all false
set_option maxRecDepth 100000
set_option maxHeartbeats 4000000
namespace Ck
open PySem L2
noncomputable def knots (n : Nat) : List Int := (List.range n).map fun (k : Nat) => 1 + (k : Int)
end Ck
namespace Ck
end Ck
namespace Ck
end Ck
set_option Elab.async false
set_option linter.all false
set_option maxRecDepth 100000
set_option maxHeartbeats 4000000
namespace L2
open PySem PySem.Spec PyProof.Rows PySem.SeqAt
section
variable {X : Cx}
end
end L2
namespace Ck
open PySem L2
end Ck
namespace L2
open PySem
end L2
namespace Ck
open PySem L2
end Ck
set_option Elab.async false
set_option linter.all false
set_option maxRecDepth 100000
set_option maxHeartbeats 4000000
namespace L2
open PySem PySem.Spec PyProof.Rows
section
variable {X : Cx}
end
end L2
namespace Ck
open PySem L2
end Ck
namespace L2
open PySem PySem.Spec PyProof.Rows PyProof
end L2
set_option Elab.async false
set_option linter.all false
set_option maxRecDepth 100000
set_option maxHeartbeats 4000000
namespace L2
open PySem PySem.Spec PyProof.Rows PySem.W
noncomputable def pw {α : Type} (n : Nat) (lt : Nat → Nat → Bool) : KasT α → (α → Prop) → Prop
  | .ret a, Q => Q a
  | .ask i j k, Q => i < n ∧ j < n ∧ pw n lt (k (lt i j)) Q
theorem pw_bind {α β : Type} {n : Nat} {lt : Nat → Nat → Bool} {f : α → KasT β} {Q : β → Prop} : ∀ {t : KasT α}, pw n lt t (fun a => pw n lt (f a) Q) → pw n lt (t.bind f) Q
  | .ret _, h => h
  | .ask _ _ _, h => ⟨h.1, h.2.1, pw_bind h.2.2⟩
theorem pw_mono {α : Type} {n : Nat} {lt : Nat → Nat → Bool} {Q Q' : α → Prop} (m : ∀ a, Q a → Q' a) : ∀ {t : KasT α}, pw n lt t Q → pw n lt t Q'
  | .ret a, h => m a h
  | .ask _ _ _, h => ⟨h.1, h.2.1, pw_mono m h.2.2⟩
theorem pw_wp {α : Type} {n : Nat} {lt : Nat → Nat → Bool} {Q : α → Prop} {s : Shared} {cmp : Nat → Nat → (Bool → Shared → Prop) → Shared → Prop}
    (hc : ∀ (i j : Nat) (C : Bool → Shared → Prop), i < n → j < n → C (lt i j) s → cmp i j C s) : ∀ {t : KasT α}, pw n lt t Q → t.kasWp cmp (fun a s' => s' = s ∧ Q a) s
  | .ret _, h => ⟨rfl, h⟩
  | .ask i j k, h => hc i j (fun b s' => (k b).kasWp cmp (fun a s' => s' = s ∧ Q a) s') h.1 h.2.1 (pw_wp hc h.2.2)
structure Ordr (lt : Nat → Nat → Bool) : Prop where
  asym : ∀ a b, lt a b = true → lt b a = false
  ntr : ∀ a b c, lt b a = false → lt c b = false → lt c a = false
noncomputable abbrev gA (p : Array Nat) (k : Nat) : Nat := p.getD k 0
noncomputable def OkP (n : Nat) (p : Array Nat) : Prop := p.toList.Perm (List.range n)
theorem OkP.size {n : Nat} {p : Array Nat} (h : OkP n p) : p.size = n := by
  have := h.length_eq
  rw [List.length_range] at this
  simpa using this
theorem OkP.lt {n : Nat} {p : Array Nat} (h : OkP n p) (hn : 0 < n) (k : Nat) : gA p k < n := by
  unfold gA
  by_cases hk : k < p.size
  · have e : p.getD k 0 = p[k] := by simp [hk]
    rw [e]
    exact List.mem_range.mp (h.mem_iff.mp (Array.getElem_mem_toList hk))
  · have e : p.getD k 0 = 0 := by simp [hk]
    rw [e]; exact hn
theorem gA_mir {p : Array Nat} {i j : Nat} (hj : j ≤ p.size) (k : Nat) : gA (kas_rev p i j) k = if i ≤ k ∧ k < j then gA p (i + j - 1 - k) else gA p k := by
  unfold gA kas_rev
  rw [Array.getD_eq_getD_getElem?, getElem?_mirror_all hj k]
  split
  · rw [← Array.getD_eq_getD_getElem?]
  · rw [← Array.getD_eq_getD_getElem?]
theorem gA_bub {p : Array Nat} {src d : Nat} (hs : src < p.size) (hd : d ≤ src) (k : Nat) : gA (bubble p src d) k = if k = src - d then gA p src else if src - d < k ∧ k ≤ src then gA p (k - 1) else gA p k := by
  unfold gA
  rw [Array.getD_eq_getD_getElem?, getElem?_bubble hs d hd k]
  split
  · simp [hs]
  · split
    · rw [← Array.getD_eq_getD_getElem?]
    · rw [← Array.getD_eq_getD_getElem?]
theorem OkP.rev {n : Nat} {p : Array Nat} (h : OkP n p) (i j : Nat) : OkP n (kas_rev p i j) := (Array.perm_iff_toList_perm.mp (mirror_perm p i j _)).trans h
theorem OkP.bub {n : Nat} {p : Array Nat} (h : OkP n p) (i j : Nat) : OkP n (bubble p i j) := (Array.perm_iff_toList_perm.mp (bubble_perm p i j)).trans h
section
variable {n : Nat} {lt : Nat → Nat → Bool} (O : Ordr lt)
noncomputable def Ris (lt : Nat → Nat → Bool) (p : Array Nat) (k : Nat) : Prop := ∀ i j, i ≤ j → j < k → lt (gA p j) (gA p i) = false
noncomputable def Fal (lt : Nat → Nat → Bool) (p : Array Nat) (k : Nat) : Prop := ∀ i j, i ≤ j → j < k → lt (gA p i) (gA p j) = false
noncomputable def Alk (lt : Nat → Nat → Bool) (a b : Nat) : Prop := lt a b = false ∧ lt b a = false
include O
theorem Ordr.irr (a : Nat) : lt a a = false := by
  cases h : lt a a with
  | false => rfl
  | true => exact h.symm.trans (O.asym a a h)
theorem Ordr.alk (a : Nat) : Alk lt a a := ⟨O.irr a, O.irr a⟩
theorem Ordr.alkT {a b c : Nat} (x : Alk lt a b) (y : Alk lt b c) : Alk lt a c := ⟨O.ntr c b a y.1 x.1, O.ntr a b c x.2 y.2⟩
theorem Ordr.up {a b c : Nat} (x : lt a b = true) (y : lt c b = false) : lt a c = true := by
  cases h : lt a c with
  | true => rfl
  | false => exact (x.symm.trans (O.ntr b c a y h)).symm ▸ rfl
theorem Ris.one (p : Array Nat) : Ris lt p 1 := fun i j h1 h2 => by
  have e : i = j := by omega
  subst e
  exact O.irr _
theorem Fal.one (p : Array Nat) : Fal lt p 1 := fun i j h1 h2 => by
  have e : i = j := by omega
  subst e
  exact O.irr _
theorem Ris.snoc {p : Array Nat} {m : Nat} (h1 : 1 ≤ m) (h : Ris lt p m) (c : lt (gA p m) (gA p (m - 1)) = false) : Ris lt p (m + 1) := fun i j ij jm => by
  by_cases hj : j < m
  · exact h i j ij hj
  · have e : j = m := by omega
    subst e
    by_cases hi : i = j
    · subst hi; exact O.irr _
    · exact O.ntr _ _ _ (h i (j - 1) (by omega) (by omega)) c
theorem Fal.snoc {p : Array Nat} {m : Nat} (h1 : 1 ≤ m) (h : Fal lt p m) (c : lt (gA p (m - 1)) (gA p m) = false) : Fal lt p (m + 1) := fun i j ij jm => by
  by_cases hj : j < m
  · exact h i j ij hj
  · have e : j = m := by omega
    subst e
    by_cases hi : i = j
    · subst hi; exact O.irr _
    · exact O.ntr _ _ _ c (h i (j - 1) (by omega) (by omega))
theorem Fal.alk {p p' : Array Nat} {m : Nat} (h : Fal lt p m) (e : ∀ k, k < m → Alk lt (gA p' k) (gA p k)) : Fal lt p' m := fun i j ij jm =>
  O.ntr _ _ _ (e j jm).2 (O.ntr _ _ _ (h i j ij jm) (e i (by omega)).1)
theorem pw_asc {p : Array Nat} (hp : OkP n p) {N : Nat} (hN : N ≤ n) : ∀ (f m : Nat), 1 ≤ m → m + f = N → Ris lt p m → pw n lt (kas_asc p f m) (fun r => m ≤ r ∧ r ≤ N ∧ Ris lt p r ∧ (r < N → lt (gA p r) (gA p (r - 1)) = true))
  | 0, m, h1, h2, h => ⟨Nat.le_refl _, by omega, h, fun z => absurd z (by omega)⟩
  | f + 1, m, h1, h2, h => by
    refine ⟨hp.lt (by omega) _, hp.lt (by omega) _, ?_⟩
    show pw n lt (if lt (gA p m) (gA p (m - 1)) = true then _ else _) _
    cases c : lt (gA p m) (gA p (m - 1)) with
    | true =>
      rw [if_pos rfl]
      exact ⟨Nat.le_refl _, by omega, h, fun _ => c⟩
    | false =>
      rw [if_neg (by decide)]
      exact pw_mono (fun r hr => ⟨by omega, hr.2⟩) (pw_asc hp hN f (m + 1) (by omega) (by omega) (h.snoc O h1 c))
theorem pw_desc {N : Nat} (hN : N ≤ n) : ∀ (f : Nat) (p : Array Nat) (m q : Nat), OkP n p → q + 1 ≤ m → m + f = N → Fal lt p m → (∀ i, m - 1 - q ≤ i → i < m → Alk lt (gA p i) (gA p (m - 1))) →
    pw n lt (kas_desc f p m q) (fun r => OkP n r.1 ∧ r.2.2 + 1 ≤ r.2.1 ∧ r.2.1 ≤ N ∧ Fal lt r.1 r.2.1 ∧ ∀ i, r.2.1 - 1 - r.2.2 ≤ i → i < r.2.1 → Alk lt (gA r.1 i) (gA r.1 (r.2.1 - 1)))
  | 0, p, m, q, hp, hq, h2, h, al => ⟨hp, hq, by show m ≤ N; omega, h, al⟩
  | f + 1, p, m, q, hp, hq, h2, h, al => by
    have hs := hp.size
    refine ⟨hp.lt (by omega) _, hp.lt (by omega) _, ?_⟩
    show pw n lt (if lt (gA p m) (gA p (m - 1)) = true then _ else _) _
    cases c : lt (gA p m) (gA p (m - 1)) with
    | true =>
      rw [if_pos rfl]
      by_cases q0 : q > 0
      · rw [if_pos q0]
        have e : ∀ k, gA (kas_rev p (m - (q + 1)) m) k = if m - (q + 1) ≤ k ∧ k < m then gA p (m - (q + 1) + m - 1 - k) else gA p k := fun k => gA_mir (by omega) k
        have ek : ∀ k, k < m → Alk lt (gA (kas_rev p (m - (q + 1)) m) k) (gA p k) := fun k hk => by
          rw [e k]
          split
          · have z1 := al (m - (q + 1) + m - 1 - k) (by omega) (by omega)
            have z2 := al k (by omega) hk
            exact O.alkT z1 ⟨z2.2, z2.1⟩
          · exact O.alk _
        have em : gA (kas_rev p (m - (q + 1)) m) m = gA p m := by rw [e m, if_neg (by omega)]
        refine pw_desc hN f _ (m + 1) 0 (hp.rev _ _) (by omega) (by omega) ((h.alk O ek).snoc O (by omega) ?_) (fun i i1 i2 => ?_)
        · rw [em]
          have := (ek (m - 1) (by omega)).1
          exact O.ntr _ _ _ (O.asym _ _ c) this
        · have : i = m := by omega
          subst this
          exact O.alk _
      · rw [if_neg q0]
        refine pw_desc hN f p (m + 1) 0 hp (by omega) (by omega) (h.snoc O (by omega) (O.asym _ _ c)) (fun i i1 i2 => ?_)
        have : i = m := by omega
        subst this
        exact O.alk _
    | false =>
      rw [if_neg (by decide)]
      refine ⟨hp.lt (by omega) _, hp.lt (by omega) _, ?_⟩
      show pw n lt (if lt (gA p (m - 1)) (gA p m) = true then _ else _) _
      cases d : lt (gA p (m - 1)) (gA p m) with
      | true =>
        rw [if_pos rfl]
        exact ⟨hp, hq, by show m ≤ N; omega, h, al⟩
      | false =>
        rw [if_neg (by decide)]
        refine pw_desc hN f p (m + 1) (q + 1) hp (by omega) (by omega) (h.snoc O (by omega) d) (fun i i1 i2 => ?_)
        by_cases hi : i < m
        · exact O.alkT (al i (by omega) hi) ⟨d, c⟩
        · have : i = m := by omega
          subst this
          exact O.alk _
noncomputable def Cnt (n : Nat) (lt : Nat → Nat → Bool) (N : Nat) (r : Nat × Array Nat) : Prop := OkP n r.2 ∧ Ris lt r.2 r.1 ∧ 1 ≤ r.1 ∧ r.1 ≤ N
theorem pw_tail3 {N : Nat} (hN : N ≤ n) {p : Array Nat} {m : Nat} (hp : OkP n p) (h1 : 1 ≤ m) (hm : m ≤ N) (h : Fal lt p m) : pw n lt (kas_tail3 m N p) (Cnt n lt N) := by
  have hs := hp.size
  have e : ∀ k, k < m → gA (kas_rev p 0 m) k = gA p (m - 1 - k) := fun k hk => by
    rw [gA_mir (by omega), if_pos (by omega), Nat.zero_add]
  refine pw_bind (pw_mono (fun r hr => ?_) (pw_asc O (hp.rev 0 m) hN (N - m) m h1 (by omega) (fun i j ij jm => ?_)))
  · exact ⟨hp.rev 0 m, hr.2.2.1, by show 1 ≤ r; omega, hr.2.1⟩
  · rw [e i (by omega), e j jm]
    exact h _ _ (by omega) (by omega)
theorem pw_descPart {N : Nat} (hN : N ≤ n) {p : Array Nat} {m : Nat} (hp : OkP n p) (h1 : 1 ≤ m) (hm : m + 1 ≤ N) (h : Fal lt p m) (c : lt (gA p m) (gA p (m - 1)) = true) : pw n lt (kas_descPart m N p) (Cnt n lt N) := by
  refine pw_bind (pw_mono (fun r hr => ?_) (pw_desc O hN (N - (m + 1)) p (m + 1) 0 hp (by omega) (by omega) (h.snoc O h1 (O.asym _ _ c)) (fun i i1 i2 => ?_)))
  · obtain ⟨p', m', q'⟩ := r
    obtain ⟨ok, hq, hl, fa, al⟩ := hr
    have hs := ok.size
    dsimp only at hs hq hl fa al ⊢
    by_cases q0 : q' > 0
    · rw [if_pos q0]
      refine pw_tail3 O hN (ok.rev _ _) (by omega) hl (fa.alk O fun k hk => ?_)
      rw [gA_mir (by omega)]
      split
      · have z1 := al (m' - (q' + 1) + m' - 1 - k) (by omega) (by omega)
        have z2 := al k (by omega) hk
        exact O.alkT z1 ⟨z2.2, z2.1⟩
      · exact O.alk _
    · rw [if_neg q0]
      exact pw_tail3 O hN ok (by omega) hl fa
  · have : i = m := by omega
    subst this
    exact O.alk _
theorem pw_count {N : Nat} (hN : N ≤ n) (hN1 : 1 ≤ N) {p : Array Nat} (hp : OkP n p) : pw n lt (kas_count N p) (Cnt n lt N) := by
  have hs := hp.size
  refine pw_bind (pw_mono (fun m hm => ?_) (pw_asc O hp hN (N - 1) 1 (Nat.le_refl _) (by omega) (Ris.one O p)))
  obtain ⟨m1, mN, ri, st⟩ := hm
  by_cases e : m = N
  · subst e
    rw [if_pos (by simp)]
    exact ⟨hp, ri, m1, Nat.le_refl _⟩
  · rw [if_neg (by simpa using e)]
    have c := st (by omega)
    by_cases m2 : m > 1
    · rw [if_pos m2]
      refine ⟨hp.lt (by omega) _, hp.lt (by omega) _, ?_⟩
      show pw n lt (if lt (gA p 0) (gA p (m - 1)) = true then _ else _) _
      cases d : lt (gA p 0) (gA p (m - 1)) with
      | true =>
        rw [if_pos rfl]
        exact ⟨hp, ri, m1, mN⟩
      | false =>
        rw [if_neg (by decide)]
        have al : ∀ i, i < m → Alk lt (gA p i) (gA p 0) := fun i hi => ⟨ri 0 i (by omega) hi, O.ntr _ _ _ (ri i (m - 1) (by omega) (by omega)) d⟩
        have e : ∀ k, k < m → gA (kas_rev p 0 m) k = gA p (m - 1 - k) := fun k hk => by
          rw [gA_mir (by omega), if_pos (by omega), Nat.zero_add]
        refine pw_descPart O hN (hp.rev _ _) m1 (by omega) (fun i j ij jm => ?_) ?_
        · rw [e i (by omega), e j jm]
          have z1 := al (m - 1 - i) (by omega)
          have z2 := al (m - 1 - j) (by omega)
          exact (O.alkT z1 ⟨z2.2, z2.1⟩).1
        · rw [gA_mir (by omega), if_neg (by omega), e (m - 1) (by omega), show m - 1 - (m - 1) = 0 by omega]
          exact O.up c d
    · rw [if_neg m2]
      have em : m = 1 := by omega
      subst em
      exact pw_descPart O hN hp (Nat.le_refl _) (by omega) (Fal.one O p) c
theorem pw_place {p : Array Nat} (hp : OkP n p) {k : Nat} (hk : k < n) (h : Ris lt p k) : ∀ (f l r : Nat), l ≤ r → r ≤ k → r - l ≤ f → (∀ i, i < l → lt (gA p k) (gA p i) = false) → (∀ i, r ≤ i → i < k → lt (gA p k) (gA p i) = true) →
    pw n lt (kas_place p k f l r) (fun l' => l' ≤ k ∧ (∀ i, i < l' → lt (gA p k) (gA p i) = false) ∧ ∀ i, l' ≤ i → i < k → lt (gA p k) (gA p i) = true)
  | 0, l, r, h1, h2, h3, a, b => ⟨by omega, a, fun i i1 i2 => b i (by omega) i2⟩
  | f + 1, l, r, h1, h2, h3, a, b => by
    show pw n lt (if l ≥ r then _ else _) _
    by_cases e : l ≥ r
    · rw [if_pos e]
      exact ⟨by omega, a, fun i i1 i2 => b i (by omega) i2⟩
    · rw [if_neg e]
      refine ⟨hp.lt (by omega) _, hp.lt (by omega) _, ?_⟩
      show pw n lt (if lt (gA p k) (gA p ((l + r) / 2)) = true then _ else _) _
      cases c : lt (gA p k) (gA p ((l + r) / 2)) with
      | true =>
        rw [if_pos rfl]
        exact pw_place hp hk h f l ((l + r) / 2) (by omega) (by omega) (by omega) a fun i i1 i2 => O.up c (h _ i i1 i2)
      | false =>
        rw [if_neg (by decide)]
        exact pw_place hp hk h f ((l + r) / 2 + 1) r (by omega) h2 (by omega) (fun i hi => O.ntr _ _ _ (h i ((l + r) / 2) (by omega) (by omega)) c) b
theorem pw_bin : ∀ (f : Nat) (p : Array Nat) (k : Nat), OkP n p → k + f = n → Ris lt p k → pw n lt (kas_bin f p k) (fun p' => OkP n p' ∧ Ris lt p' n)
  | 0, p, k, hp, hk, h => by
    have : k = n := by omega
    subst this
    exact ⟨hp, h⟩
  | f + 1, p, k, hp, hk, h => by
    have hs := hp.size
    refine pw_bind (pw_mono (fun l hl => ?_) (pw_place O hp (by omega) h k 0 k (by omega) (Nat.le_refl _) (by omega) (fun i hi => absurd hi (by omega)) (fun i i1 i2 => absurd i1 (by omega))))
    obtain ⟨lk, lo, hi⟩ := hl
    refine pw_bin f _ (k + 1) (hp.bub _ _) (by omega) (fun i j ij jk => ?_)
    have e := fun x => gA_bub (p := p) (src := k) (d := k - l) (by omega) (by omega) x
    rw [e i, e j, show k - (k - l) = l by omega]
    by_cases j1 : j = l
    · subst j1
      rw [if_pos rfl]
      by_cases i1 : i = j
      · rw [if_pos i1]; exact O.irr _
      · rw [if_neg i1, if_neg (by omega)]
        exact lo i (by omega)
    · rw [if_neg j1]
      by_cases j2 : l < j ∧ j ≤ k
      · rw [if_pos j2]
        by_cases i1 : i = l
        · rw [if_pos i1]
          exact O.asym _ _ (hi (j - 1) (by omega) (by omega))
        · rw [if_neg i1]
          by_cases i2 : l < i ∧ i ≤ k
          · rw [if_pos i2]
            exact h _ _ (by omega) (by omega)
          · rw [if_neg i2]
            exact h _ _ (by omega) (by omega)
      · rw [if_neg j2, if_neg (by omega), if_neg (by omega)]
        exact h _ _ ij (by omega)
theorem pw_sort (h2 : 1 ≤ n) : pw n lt (kas_sort n) (fun p => OkP n p ∧ Ris lt p n) := by
  refine pw_bind (pw_mono (fun r hr => ?_) (pw_count O (Nat.le_refl n) h2 (p := List.toArray (List.range n)) (by unfold OkP; simp)))
  obtain ⟨m, p⟩ := r
  obtain ⟨ok, ri, m1, mn⟩ := hr
  dsimp only at ok ri m1 mn ⊢
  by_cases e : m < n
  · rw [if_pos e, Nat.max_eq_left m1]
    exact pw_bin O (n - m) p m ok (by omega) ri
  · rw [if_neg e]
    have : m = n := by omega
    subst this
    exact ⟨ok, ri⟩
end
end L2
set_option Elab.async false
set_option linter.all false
set_option maxRecDepth 100000
set_option maxHeartbeats 4000000
namespace L2
open PySem PySem.Spec PyProof.Rows PySem.W Ck
section
variable {prog : Program} {w : World} {A : Around} {E : Value → Shared → Prop} {s : Shared}
noncomputable def Asks (prog : Program) (w : World) (A : Around) (vs : List Value) (lt : Nat → Nat → Bool) (s1 : Shared) : Prop :=
  ∀ (Q : SortKind → Shared → Prop), (∀ κ, (∀ (i j : Nat) (C : Bool → Shared → Prop), i < vs.length → j < vs.length → C (lt i j) s1 → kas_ask prog w A κ vs i j C s1) → Q κ s1) → wpAny (model prog w) A (keyKind' vs.toArray) Q (fun _ _ => False) s1
noncomputable def outOf (vs : List Value) (p : Array Nat) : List Value := p.toList.map fun i => vs.getD i Value.none
theorem out_range (vs : List Value) : outOf vs (List.toArray (List.range vs.length)) = vs := by
  unfold outOf
  refine List.ext_getElem (by simp) fun i h1 h2 => ?_
  simp [h2]
theorem zip_snd (vs : List Value) : (vs.toArray.zip vs.toArray).map (·.2) = vs.toArray := by
  refine Array.ext (by simp) fun i h1 h2 => ?_
  simp
theorem sort_ask {a : Addr} {vs : List Value} {n : Nat} {P : PySem.Fin → Shared → Prop} {lt : Nat → Nat → Bool} (O : Ordr lt) (ho : s.heap.get? a = some (seqObj "list" vs.toArray n)) (h64 : vs.length < 64)
    (hk : ∀ h6 : Heap, (∀ b o, b ≠ a → s.heap.get? b = some o → h6.get? b = some o) → 2 ≤ vs.length → Asks prog w A vs lt { s with heap := h6 })
    (fin : ∀ p : Array Nat, OkP vs.length p → Ris lt p vs.length → P (.done (.ret .none)) { s with heap := sortedHeap s.heap a vs (outOf vs p).toArray }) : wpAny (model prog w) A (Builtin.«list.sort» ⟨[.ref a], []⟩) P E s := by
  have ha : a < s.heap.objs.size := Heap.lt_size ho
  have hz : vs.length ≤ sizeLine := by rw [sizeLine_eq]; omega
  obtain ⟨e1, ho1⟩ : ∃ e, (s.heap.update a (Obj.mapSeq fun _ => (#[] : Array Value))).get? a = some (seqObj "list" #[] e) := ⟨_, get?_update_seq ho _⟩
  have keep : ∀ b o, (s.heap.update a (Obj.mapSeq fun _ => (#[] : Array Value))).get? b = some o → (((s.heap.update a (Obj.mapSeq fun _ => (#[] : Array Value))).push (seqObj "tuple" vs.toArray 0)).push (seqObj "list" #[] 0)).get? b = some o := fun b o e => Heap.get?_push_of_some _ (Heap.get?_push_of_some _ e)
  have old : ∀ b o, b ≠ a → s.heap.get? b = some o → (((s.heap.update a (Obj.mapSeq fun _ => (#[] : Array Value))).push (seqObj "tuple" vs.toArray 0)).push (seqObj "list" #[] 0)).get? b = some o := fun b o hb e => keep b o (by rw [Heap.get?_update_ne _ _ _ _ hb]; exact e)
  have ho6 := keep _ _ ho1
  rw [list_sort_plain]
  refine wpAny_bind (listItems_at ho rfl (wpAny_bind (listUpdate_at ho rfl (wpAny_bind (seqEpoch_at ho1 rfl (wpAny_bind (wpAny_newTuple (wpAny_bind (wpAny_newList (wpAny_holding ?_) (Nat.zero_le _))) hz)))) (by rw [List.size_toArray]; exact hz) (Nat.zero_le _))))
  show wpAny (model prog w) A _ P E { s with heap := ((s.heap.update a (Obj.mapSeq fun _ => (#[] : Array Value))).push (seqObj "tuple" vs.toArray 0)).push (seqObj "list" #[] 0) }
  dsimp only
  by_cases h2 : vs.toArray.size < 2
  · rw [if_pos h2, if_pos h2]
    refine wpAny_bind (wpAny_pure ?_)
    rw [StateT.run_pure]
    refine wpAny_bind (wpAny_pure ?_)
    dsimp only
    have ez : (arrOf (SortSt.mk' general' (vs.toArray.zip vs.toArray) #[] 7 none)).map (·.2) = vs.toArray := zip_snd vs
    rw [ez]
    refine wpAny_bind (seqEpoch_at ho6 rfl (wpAny_bind (listUpdate_at ho6 rfl ?_ (Nat.zero_le _) (by rw [List.size_toArray]; omega))))
    simp only [bne_self_eq_false, Bool.false_eq_true, if_false]
    have f := fin (List.toArray (List.range vs.length)) (by unfold OkP; simp) (fun i j ij jl => by
      rw [List.size_toArray] at h2
      have e : i = j := by omega
      subst e
      exact O.irr _)
    rw [out_range] at f
    exact wpAny_pure f
  · rw [if_neg h2, if_neg h2]
    rw [List.size_toArray] at h2
    refine wpAny_bind (wpAny_mono (hk _ old (by omega) _ fun κ ask => ?_) (fun _ _ q => q) fun _ _ x => x.elim)
    refine wpAny_bind (wpAny_mono (kat_run (ks := vs) (Q := fun st' s' => ∃ p : Array Nat, p.size = vs.length ∧ arrOf st' = p.map (kas_item (vs.toArray.zip vs.toArray)) ∧ failedOf st' = none ∧ s' = _ ∧ OkP vs.length p ∧ Ris lt p vs.length) rfl (by omega) h64
      (fun p' st' s' a1 a2 a3 a4 => ⟨p', a1, a2, a3, a4⟩) (pw_wp ask (pw_sort O (by omega)))) ?_ fun _ _ e => e)
    rintro ⟨⟨⟩, st'⟩ s' ⟨p, hp, har, hf, rfl, ok, ri⟩
    dsimp only
    rw [kat_snds rfl har]
    refine wpAny_bind (seqEpoch_at ho6 rfl (wpAny_bind (listUpdate_at ho6 rfl ?_ (Nat.zero_le _) (by rw [List.size_toArray, List.length_map, Array.length_toList, hp]; omega))))
    rw [hf]
    simp only [bne_self_eq_false, Bool.false_eq_true, if_false]
    exact wpAny_pure (fin p ok ri)
theorem sorted_ask {l : Addr} {vs : List Value} {Q : Value → Shared → Prop} {lt : Nat → Nat → Bool} (O : Ordr lt) (hl : s.heap.IsList l vs.toArray) (h64 : vs.length < 64)
    (hk : ∀ h6 : Heap, (∀ b o, s.heap.get? b = some o → h6.get? b = some o) → 2 ≤ vs.length → Asks prog w A.in1.in1 vs lt { s with heap := h6 })
    (fin : ∀ p : Array Nat, OkP vs.length p → Ris lt p vs.length → Q (.ref (s.heap.objs.size + 1)) { s with heap := sortedAll s.heap vs (outOf vs p).toArray }) : wpAny (model prog w) A (call (.builtin "sorted") [.ref l]) Q E s := by
  have hz : vs.length ≤ sizeLine := by rw [sizeLine_eq]; omega
  have hsz : ((s.heap.push (seqObj "list" #[] 0)).update s.heap.objs.size (Obj.mapSeq (· ++ vs.toArray))).objs.size = s.heap.objs.size + 1 := by rw [Heap.size_update, size_push']
  have hoL : (((s.heap.push (seqObj "list" #[] 0)).update s.heap.objs.size (Obj.mapSeq (· ++ vs.toArray))).push (seqObj "list" vs.toArray 0)).get? (s.heap.objs.size + 1) = some (seqObj "list" vs.toArray 0) := by rw [← hsz]; exact Heap.get?_push_size _ rfl
  have keep : ∀ b o, s.heap.get? b = some o → (((s.heap.push (seqObj "list" #[] 0)).update s.heap.objs.size (Obj.mapSeq (· ++ vs.toArray))).push (seqObj "list" vs.toArray 0)).get? b = some o := fun b o q => by
    have hlt : b < s.heap.objs.size := Heap.lt_size q
    refine Heap.get?_push_of_some _ ?_
    rw [Heap.get?_update_ne _ _ _ _ (Nat.ne_of_lt hlt)]
    exact Heap.get?_push_of_some _ q
  refine Calls.call_function_entry kind_sorted plain_sorted entry_sorted (args_sorted1 _) ?_
  unfold Builtin.«sorted»
  refine wpAny_bind (m := checkCount "sorted" 1 1 _) (wpAny_pure (wpAny_bind (collect_list hl (wpAny_bind (wpAny_newList ?_ hz)) hz)))
  show wpAny _ _ _ _ _ { s with heap := ((s.heap.push (seqObj "list" #[] 0)).update s.heap.objs.size (Obj.mapSeq (· ++ vs.toArray))).push (seqObj "list" vs.toArray 0) }
  rw [hsz]
  refine wpAny_bind (wpAny_holding (wpAny_call_entry slot_list_sort ⟨_, hoL, rfl⟩ entry_list_sort (sort_ask (s := { s with heap := ((s.heap.push (seqObj "list" #[] 0)).update s.heap.objs.size (Obj.mapSeq (· ++ vs.toArray))).push (seqObj "list" vs.toArray 0) }) O hoL h64 (fun h6 old => hk h6 fun b o q => old b o (Nat.ne_of_lt (Nat.lt_succ_of_lt (Heap.lt_size q))) (keep b o q)) fun p ok ri => ⟨_, rfl, ?_⟩) (args_list_sort _)))
  exact wpAny_pure ⟨_, rfl, fin p ok ri⟩
noncomputable def ltP (p q : Pair) : Bool := decide (p.1 < q.1) || (decide (p.1 = q.1) && decide (p.2 < q.2))
noncomputable def leP (p q : Pair) : Prop := p.1 < q.1 ∨ (p.1 = q.1 ∧ p.2 ≤ q.2)
theorem ltP_no {p q : Pair} : ltP q p = false ↔ leP p q := by
  unfold ltP leP
  simp only [Bool.or_eq_false_iff, Bool.and_eq_false_iff, decide_eq_false_iff_not]
  omega
theorem ltP_yes {p q : Pair} : ltP p q = true ↔ ¬ leP q p := by
  rw [← ltP_no]
  simp
theorem ordP (ps : List Pair) : Ordr fun i j => ltP (ps.getD i (0, 0)) (ps.getD j (0, 0)) where
  asym a b h := by
    rw [ltP_yes] at h
    rw [ltP_no]
    unfold leP at h ⊢
    omega
  ntr a b c h1 h2 := by
    rw [ltP_no] at h1 h2 ⊢
    unfold leP at h1 h2 ⊢
    omega
noncomputable def PrV (h : Heap) (vs : List Value) (ps : List Pair) : Prop := Paired (fun (v : Value) (p : Pair) => ∃ a t u, v = .ref a ∧ IsTup h a #[.int p.1 t, .int p.2 u]) vs ps
theorem PrV.get {h : Heap} : ∀ {vs : List Value} {ps : List Pair}, PrV h vs ps → ∀ {i : Nat}, i < vs.length → ∃ a t u, vs.getD i Value.none = .ref a ∧ IsTup h a #[.int (ps.getD i (0, 0)).1 t, .int (ps.getD i (0, 0)).2 u]
  | _, _, .nil, i, e => absurd e (by simp)
  | _, _, .cons r t, 0, e => r
  | _, _, .cons r t, i + 1, e => by
    have := PrV.get t (i := i) (by simpa using e)
    simpa using this
theorem PrV.tups {h : Heap} : ∀ {vs : List Value} {ps : List Pair}, PrV h vs ps → ∃ fs : List Value, KatTups h vs fs ∧ fs.length = vs.length ∧ ∀ v ∈ fs, ∃ i t, v = .int i t
  | _, _, .nil => ⟨[], .nil, rfl, fun v hv => by cases hv⟩
  | _, _, .cons (b := p) r t => by
    obtain ⟨fs, k, l, al⟩ := PrV.tups t
    obtain ⟨a, t', u, rfl, o, ho, hc, n, hd⟩ := r
    refine ⟨.int p.1 t' :: fs, .cons ho hc hd rfl k, by simp [l], fun v hv => ?_⟩
    rcases List.mem_cons.mp hv with rfl | hv
    · exact ⟨_, _, rfl⟩
    · exact al v hv
theorem asksP {vs : List Value} {ps : List Pair} {s1 : Shared} (r : PrV s1.heap vs ps) (h2 : 2 ≤ vs.length) : Asks prog w A vs (fun i j => ltP (ps.getD i (0, 0)) (ps.getD j (0, 0))) s1 := by
  intro Q q
  obtain ⟨fs, k, l, al⟩ := r.tups
  refine kat_kind (T := .type "int") k (by omega) (fun v hv => ?_) (by decide) (q _ fun i j C hi hj hc => ?_)
  · obtain ⟨i, t, rfl⟩ := al v hv
    exact Looks.of_pure rfl
  · obtain ⟨a, t, u, e1, o1, g1, c1, n1, d1⟩ := r.get hi
    obtain ⟨b, t', u', e2, o2, g2, c2, n2, d2⟩ := r.get hj
    unfold kas_ask
    rw [e1, e2]
    have hc : C (ltP (ps.getD i (0, 0)) (ps.getD j (0, 0))) s1 := hc
    generalize ps.getD i (0, 0) = p at hc d1
    generalize ps.getD j (0, 0) = q' at hc d2
    obtain ⟨x1, y1⟩ := p
    obtain ⟨x2, y2⟩ := q'
    unfold ltP at hc
    dsimp only at hc d1 d2
    refine kat_lt g1 d1 g2 d2 (kat_cons (wpAny_eqBool_int ?_))
    by_cases ex : x1 = x2
    · subst ex
      rw [show (x1 == x1) = true from by simp]
      refine kat_yes (kat_cons (wpAny_eqBool_int ?_))
      by_cases ey : y1 = y2
      · subst ey
        rw [show (y1 == y1) = true from by simp]
        refine kat_yes (kat_nil ?_)
        have e : (decide (x1 < x1) || decide (x1 = x1) && decide (y1 < y1)) = false := by simp
        rw [e] at hc
        exact hc
      · rw [show (y1 == y2) = false from by simpa using ey]
        refine kat_no (kat_one _ _ (wpAny_lt_int ?_))
        have e : (decide (x1 < x1) || decide (x1 = x1) && decide (y1 < y2)) = decide (y1 < y2) := by simp
        rw [e] at hc
        exact hc
    · rw [show (x1 == x2) = false from by simpa using ex]
      refine kat_no (oneLt_int ?_)
      have e : (decide (x1 < x2) || decide (x1 = x2) && decide (y1 < y2)) = decide (x1 < x2) := by simp [ex]
      rw [e] at hc
      exact hc
end
section
variable {X : Cx}
theorem prv_of {pins : List (Addr × Obj)} {σ : St} {H : Hp} {s : Shared} (I : Inv X pins σ H s) : ∀ {us : List V} {ps : List Pair} {vs : List Value}, Prs H us ps → Vals us vs → PrV s.heap vs ps
  | _, _, _, .nil, .nil => .nil
  | _, _, _, .cons r t, .cons rv tv => by
    obtain ⟨a, rfl, ha⟩ := r
    cases rv
    obtain ⟨its, r', tu, _⟩ := I.tuple (SqT.of ha)
    refine .cons ⟨a, ?_⟩ (prv_of I t tv)
    cases r' with
    | cons x1 r2 =>
      cases r2 with
      | cons x2 r3 =>
        cases r3
        obtain ⟨t1, rfl⟩ := x1
        obtain ⟨t2, rfl⟩ := x2
        exact ⟨t1, t2, rfl, tu⟩
theorem PrV.mono {h h' : Heap} (k : ∀ b o, h.get? b = some o → h'.get? b = some o) : ∀ {vs : List Value} {ps : List Pair}, PrV h vs ps → PrV h' vs ps
  | _, _, .nil => .nil
  | _, _, .cons r t => by
    obtain ⟨a, t1, t2, e, o, ho, hc, n, hd⟩ := r
    exact .cons ⟨a, t1, t2, e, o, k _ _ ho, hc, n, hd⟩ (PrV.mono k t)
theorem pairs_take {α β : Type} {R : α → β → Prop} {as : List α} {bs : List β} (h : Paired R as bs) (da : α) (db : β) : ∀ is : List Nat, (∀ i ∈ is, i < as.length) → Paired R (is.map fun i => as.getD i da) (is.map fun i => bs.getD i db)
  | [], _ => .nil
  | i :: is, hi => by
    refine .cons ?_ (pairs_take h da db is fun j hj => hi j (List.mem_cons_of_mem _ hj))
    have hl := hi i (List.mem_cons_self ..)
    have go : ∀ {as : List α} {bs : List β}, Paired R as bs → ∀ i, i < as.length → R (as.getD i da) (bs.getD i db) := by
      intro as bs h
      induction h with
      | nil => intro i hi; simp at hi
      | cons r t ih =>
        intro i hi
        cases i with
        | zero => simpa using r
        | succ i => simpa using ih i (by simpa using hi)
    exact go h i hl
theorem take_perm {α : Type} (d : α) (l : List α) {is : List Nat} (h : is.Perm (List.range l.length)) : (is.map fun i => l.getD i d).Perm l := by
  refine (h.map _).trans ?_
  have e : (List.range l.length).map (fun i => l.getD i d) = l := List.ext_getElem (by simp) fun i h1 h2 => by simp [h2]
  rw [e]
theorem call_sortedP : CallR X (.builtin "sorted") (fun xs H Q => ∃ (p : Addr) (ps : List Pair), xs = [.ref p] ∧ PLs H p ps ∧ ps.length < 64 ∧ ∀ (q : Addr) (qs : List Pair) (H' : Hp), Same H H' → H q = none → PLs H' q qs → qs.Perm ps → qs.Pairwise leP → Q (.ref q) H') := by
  intro pins s σ H xs us Q I r h
  obtain ⟨p, ps, rfl, ⟨ws, hl, pr⟩, h64, q⟩ := h
  obtain ⟨u, rfl, ru⟩ := vals1 r
  cases ru
  obtain ⟨its, r', pl, hz⟩ := I.list (SqL.of hl)
  have lw := pr.length
  have li : ws.length = its.length := r'.length
  have pv := prv_of I pr r'
  refine sorted_ask (ordP ps) pl.isList (by omega) (fun h6 old h2 => asksP (s1 := { s with heap := h6 }) (pv.mono old) h2) fun g ok ri => ?_
  obtain ⟨e, he⟩ := sortedAll_at s.heap its (outOf its g).toArray
  have hb : ∀ i ∈ g.toList, i < its.length := fun i hi => List.mem_range.mp (ok.mem_iff.mp hi)
  have lg : g.toList.length = its.length := by rw [ok.length_eq, List.length_range]
  have hz2 : (g.toList.map fun i => ws.getD i V.non).length ≤ sizeLine := by rw [List.length_map, lg]; exact sz (by omega)
  have vs2 : Vals (g.toList.map fun i => ws.getD i V.non) (outOf its g) := pairs_take r' V.non Value.none g.toList (fun i hi => by rw [li]; exact hb i hi)
  have pr2 : Prs H (g.toList.map fun i => ws.getD i V.non) (g.toList.map fun i => ps.getD i (0, 0)) := pairs_take pr V.non (0, 0) g.toList (fun i hi => by rw [li]; exact hb i hi)
  have fr : H (s.heap.objs.size + 1) = none := I.hok.fresh (Nat.le_succ _)
  refine ⟨.ref _, _, I.laid (t' := s.toks) (o := .lst (g.toList.map fun i => ws.getD i V.non)) (fun b u e => sortedAll_old e) (Nat.le_succ _) ⟨hz2, outOf its g, e, vs2, by simpa [seqObj] using he⟩, rfl, ?_⟩
  refine q _ _ _ (Same.new (Same.refl H) fr _) fr ⟨_, upd_same, pr2.updN fr _⟩ (take_perm (0, 0) ps (by rw [← lw, li]; exact ok)) ?_
  rw [List.pairwise_map]
  have gs : g.size = its.length := by rw [← lg]; simp
  refine List.pairwise_iff_getElem.mpr fun i j hi hj hij => ?_
  have := ri i j (by omega) (by rw [← gs]; simpa using hj)
  rw [ltP_no] at this
  unfold gA at this
  simpa [show i < g.size by simpa using hi, show j < g.size by simpa using hj] using this
end
end L2
set_option Elab.async false
set_option linter.all false
set_option maxRecDepth 100000
set_option maxHeartbeats 4000000
namespace L2
open PySem PySem.Spec PyProof.Rows PySem.W
section
variable {prog : Program} {w : World} {A : Around} {E : Value → Shared → Prop} {s : Shared} {R : Result → Shared → Prop} {d : Value} {it : Addr} {fp wr : List Addr} {n : Nat} {P : Nat → Value → Prop} {St : Nat → Heap → Prop}
end
section
variable {X : Cx} {e : Expr} {es : List Expr} {kws : List Keyword} {p pos : Pos} {t tk : TA} {x : Str} {id : String} {ks : List Str} {r : List V → List V → Hp → VK → Prop}
end
end L2
set_option Elab.async false
set_option linter.all false
set_option maxRecDepth 100000
set_option maxHeartbeats 4000000
namespace L2
open PySem PySem.Spec PyProof.Rows
section
variable {X : Cx}
end
theorem EqD.two {K : PySem.W.Frag} {H : Hp} {n : Nat} {a b : Addr} {x1 y1 x2 y2 : Int} (ne : a ≠ b) (ha : H a = some (.tup [.int x1, .int y1])) (hb : H b = some (.tup [.int x2, .int y2])) : EqD K H (n + 1) (.ref a) (.ref b) (decide (x1 = x2) && decide (y1 = y2)) := by
  have h := EqD.tup (n := n) (e := fun j => if j = 0 then decide (x1 = x2) else decide (y1 = y2)) ne (SqT.of (K := K) ha) (SqT.of (K := K) hb) (fun j x y ex ey => by
    match j, ex, ey with
    | 0, ex, ey =>
      have e1 : V.int x1 = x := by simpa using ex
      have e2 : V.int x2 = y := by simpa using ey
      rw [← e1, ← e2, if_pos rfl]
      have z := EqD.flat (K := K) (H := H) (n := n) (x := V.int x1) (y := V.int x2) rfl rfl
      exact z
    | 1, ex, ey =>
      have e1 : V.int y1 = x := by simpa using ex
      have e2 : V.int y2 = y := by simpa using ey
      rw [← e1, ← e2, if_neg (by decide)]
      have z := EqD.flat (K := K) (H := H) (n := n) (x := V.int y1) (y := V.int y2) rfl rfl
      exact z
    | j + 2, ex, ey => simp at ex)
  have e : ((List.range (min [V.int x1, V.int y1].length [V.int x2, V.int y2].length)).all (fun j => if j = 0 then decide (x1 = x2) else decide (y1 = y2)) && decide ([V.int x1, V.int y1].length = [V.int x2, V.int y2].length)) = (decide (x1 = x2) && decide (y1 = y2)) := by
    simp [List.range_succ]
  first
    | (rw [e] at h; exact h)
    | (simp [List.range_succ] at h; exact h)
end L2
namespace Ck
open PySem L2
noncomputable def Cut (n : Nat) (p : Pair) : Prop := 0 ≤ p.1 ∧ p.1 + 1 < p.2 ∧ p.2 ≤ (n : Int) + 1 ∧ ¬ (p.1 = 0 ∧ p.2 = (n : Int) + 1)
structure Flo (n : Nat) (ps : List Pair) : Prop where
  cut : ∀ p ∈ ps, Cut n p
  ris : ps.Pairwise leP
  len : ps.length ≤ n
noncomputable def sides (i j : Nat) : List Pair := (if i = 0 then [] else [(0, (i : Int) + 1)]) ++ (if j = 0 then [] else [((i : Int) + 1, (i : Int) + (j : Int) + 2)])
noncomputable def joinF (i j : Nat) (ps qs : List Pair) : List Pair := ps ++ sides i j ++ qs.map (up ((i : Int) + 1))
section
variable {i j : Nat} {ps qs : List Pair} (hp : Flo i ps) (hq : Flo j qs)
include hp hq
variable {cs : List Pair} (hc : cs.Perm (joinF i j ps qs)) (hs : cs.Pairwise leP)
include hc hs
end
end Ck
set_option Elab.async false
set_option linter.all false
set_option maxRecDepth 100000
set_option maxHeartbeats 4000000
namespace Ck
open PySem L2
inductive Bt where
  | leaf
  | node (l r : Bt)
noncomputable def Bt.size : Bt → Nat
  | .leaf => 0
  | .node l r => l.size + r.size + 1
noncomputable def brk : Bt → List Nat
  | .leaf => []
  | .node l r => 40 :: (brk l ++ 41 :: brk r)
noncomputable def pre (n j : Nat) : Int := ((List.range j).map fun i => sh i * sh (n - 1 - i)).sum
end Ck
set_option Elab.async false
set_option linter.all false
set_option maxRecDepth 100000
set_option maxHeartbeats 4000000
namespace L2
open PySem PySem.Spec PyProof.Rows
theorem extend_tup (l b : Addr) (us vs : Array Value) (n m : Nat) (d : Option Addr) (sl : Array (Option Value)) (h0 : ¬(!us.isEmpty && Builtin.List.listTooLong (us.size + vs.size)) = true) (h1 : us.size ≤ sizeLine) (h2 : us.size + vs.size ≤ sizeLine + 1) :
    Meets (Builtin.«list.extend» ⟨[.ref l, .ref b], []⟩) (fun _ R s => s.heap.get? l = some { cls := .type "list", dict := none, data := .seq us n, slots := #[] } ∧
      s.heap.get? b = some { cls := .type "tuple", dict := d, data := .seq vs m, slots := sl } ∧
      R (.ok (.ret Value.none)) { s with heap := s.heap.update l (Obj.mapSeq fun x => x ++ vs), toks := s.toks }) :=
  .of_wp fun prog w A R s h => by
    obtain ⟨hp, g, dr, tk, os⟩ := s
    obtain ⟨hl, hb, h⟩ := h
    have f2 := AutoSeq1.sub_tuple_tuple
    have f3 := AutoSeq1.sub_list_list
    have f4 := AutoSeq1.sub_tuple_list
    have f5 := AutoSeq1.sub_list_tuple
    have h2' : (us ++ vs).size ≤ sizeLine + 1 := by rw [Array.size_append]; exact h2
    wp_walk using (wpAny_updateSeq hl rfl (hz := h1) (_hz' := h2')), AutoSeq1.wpAny_loadPart' hl, AutoSeq1.wpAny_loadPart' hb
    exact ⟨_, rfl, h⟩
section
variable {X : Cx}
noncomputable def rExtT (K : PySem.W.Frag) : V → List V → Hp → VK → Prop := fun x vs H Q => ∃ l b xs zs, x = .ref l ∧ vs = [.ref b] ∧ H l = some (.lst xs) ∧ SqT K H b zs ∧ xs.length + zs.length ≤ sizeLine ∧ Q .non (upd H l (.lst (xs ++ zs)))
theorem mt_extT : MtM X "list.extend" (rExtT X.K) := by
  intro pins s σ H x vs v us Q I rx rv h
  obtain ⟨l, b, xs, zs, rfl, rfl, hH, hB, hz, q⟩ := h
  cases rx
  obtain ⟨u, rfl, ru⟩ := rv.one
  cases ru
  obtain ⟨z, its, n, r, hl, e⟩ := I.lstM hH
  obtain ⟨its2, r2, ⟨⟨oc, od, dt, os⟩, e2, c2, m2, d2⟩, z2⟩ := I.tuple hB
  dsimp only at c2 d2
  subst c2 d2
  have l1 := r.length
  have l2 := r2.length
  have hsz : its.toArray.size + its2.toArray.size ≤ sizeLine := by rw [List.size_toArray, List.size_toArray]; omega
  have hlong : ¬ (!its.toArray.isEmpty && Builtin.List.listTooLong (its.toArray.size + its2.toArray.size)) = true := by
    rw [notLongL hsz, Bool.and_false]
    exact Bool.false_ne_true
  refine call_meets F.slot_list_extend ⟨_, e, rfl⟩ F.entry_list_extend (F.args_list_extend_2 _ _) (extend_tup l b its.toArray its2.toArray n m2 od os hlong (by rw [List.size_toArray]; omega) (by omega)) ⟨e, e2, ?_⟩
  refine ⟨.non, _, I.lset (its' := its ++ its2) hH e (by simp) (r.append r2) ?_, rfl, q⟩
  rw [List.length_append]
  omega
variable {X : Cx} {o e : Expr} {es : List Expr} {to : TE} {t : TA} {name : Str} {apos cpos : Pos} {T id : String} {r : V → List V → Hp → VK → Prop}
theorem pe_bmC {K : PySem.W.Frag} (hK : X.K = K) (pa : PlainAttrs T) (slot : Slot T name id) (hty : typeOf (.builtin id) = pure (.type "method_descriptor")) (hm : MtR X id r) (ho : PE X o to) (ha : PA X (e :: es) t)
    (hbase : attributeBase o name X.env (eval o X.env) = eval o X.env := by rfl)
    (hfew : ((backTo cpos (starEach (e :: es) X.env)).all (fun x => !x.1) && (backToKw cpos (keywordEach [] X.env)).all (fun x => x.1.isSome)
      && decide ((e :: es).length + ([] : List Keyword).length + (if ([] : List Keyword).isEmpty then 0 else 1) < 30)) = true := by rfl)
    (hline : (apos.endLine == cpos.line) = true := by rfl) (hs : starEach (e :: es) X.env = (false, eval e X.env) :: starEach es X.env := by rfl) (hplain : (backTo cpos (starEach es X.env)).any (·.1) = false := by rfl) :
    PE X (.Call (.Attribute o name apos) (e :: es) [] cpos) (tBM K T r to t) := by
  subst hK
  exact pe_bm pa slot hty hm ho ha hbase hfew hline hs hplain
end
section
variable {X : Cx}
end
theorem comp_rangeW {lo : Int} {n : Nat} {g : TG} {tt : TT} {te : TE} {σ0 : St} {H : Hp} {D : Addr} {Q : VK} (Pv : Nat → List V → Hp → Prop) (hz : n ≤ sizeLine)
    (h0 : Pv 0 [] (upd H D (.lst []))) (hl : ∀ i ys H', i ≤ n → Pv i ys H' → ys.length ≤ i)
    (hs : ∀ (i : Nat) (ys : List V) (H' : Hp) (R : VK) (R0 : Hp → Prop), i < n → Pv i ys H' → (∀ v H3, H3 D = some (.lst ys) → Pv (i + 1) (ys ++ [v]) (upd H3 D (.lst (ys ++ [v]))) → R v H3) → (∀ H3, Pv (i + 1) ys H3 → R0 H3) →
      g (.int (lo + i)) σ0 H' fun σ2 H2 => Ext σ0 σ2 ∧ tt σ2 H2 fun b H3 => if b = true then te σ2 H3 R else R0 H3)
    (hq : ∀ ys H', Pv n ys H' → Q (.ref D) H') :
    CompW (Itr lo n) g tt te σ0 D Q H := by
  refine ⟨fun i m ys H' => m = n - i ∧ i ≤ n ∧ Pv i ys H', ⟨n, by simp, Nat.zero_le _, h0⟩, ?_⟩
  rintro i m ys H' ⟨rfl, hi, p⟩
  have ly := hl i ys H' hi p
  by_cases hlt : i < n
  · refine .inr ⟨hlt, fun x H'' y => ?_⟩
    obtain ⟨e, y⟩ := y
    subst e y
    refine hs i ys _ _ _ hlt p (fun v H3 hD p' => ⟨hD, by omega, n - (i + 1), by omega, rfl, hlt, p'⟩) fun H3 p' => ⟨n - (i + 1), by omega, rfl, hlt, p'⟩
  · have e : i = n := by omega
    subst e
    exact .inl ⟨Nat.le_refl _, hq ys H' p⟩
end L2
namespace Ck
open PySem L2
noncomputable def sizes (ts : List Bt) : Nat := (ts.map Bt.size).sum
end Ck
set_option Elab.async false
set_option linter.all false
set_option maxRecDepth 100000
set_option maxHeartbeats 4000000
namespace Lg
open PySem PyProof.Rows
noncomputable def gallop' : Bool → Keyed → Array Keyed → Nat → Nat → Nat → StateT SortSt Sem (Option Nat) := sortPriv% PySem.Builtin.gallop
noncomputable def beyond' (left : Bool) (key : Keyed) (arr : Array Keyed) (base i : Nat) : StateT SortSt Sem (Option Bool) := elem' arr (base + i) >>= fun x => if left then lt' x key else lt' key x >>= fun r => pure (r.map (!·))
noncomputable def bey (left : Bool) (k a : Int) : Bool := if left then decide (a < k) else !decide (k < a)
section
variable {prog : Program} {w : World} {A : Around} {E : Value → Shared → Prop} {s : Shared}
theorem IntKeys.at {xs : Array Keyed} (h : IntKeys xs) {i : Nat} (hi : i < xs.size) : ∃ t q, xs[i]? = some (.int (K xs i) t, q) := by
  have hm : xs[i] ∈ xs.toList := by simp
  obtain ⟨n, t, hn⟩ := h _ hm
  refine ⟨t, xs[i].2, ?_⟩
  have e : xs[i]? = some xs[i] := getElem?_pos _ i hi
  have e2 : xs[i] = (.int n t, xs[i].2) := Prod.ext hn rfl
  unfold K
  rw [e, e2]
  rfl
theorem wpS_lt {st : SortSt} {a b : Int} {t u : Tok} {p q : Value} {Q : Option Bool → SortSt → Prop} (hk : kindOf st = oneType') (h : Q (some (decide (a < b))) st) : wpS (model prog w) A E s (lt' (.int a t, p) (.int b u, q)) Q st := by
  rw [lt'_eq]
  refine wpS_bind (wpS_get ?_)
  rw [hk, keyLt'_oneType]
  refine wpS_bind (wpS_lift (wpAny_attempt (oneLt_int ⟨rfl, ?_⟩)))
  exact wpS_pure h
theorem wpS_elem {st : SortSt} {xs : Array Keyed} {i : Nat} {p : Keyed} {Q : Keyed → SortSt → Prop} (e : xs[i]? = some p) (h : Q p st) : wpS (model prog w) A E s (elem' xs i) Q st := by
  rw [elem'_eq, e]
  exact wpS_pure h
theorem wpS_beyond {st : SortSt} {left : Bool} {k : Int} {t : Tok} {p : Value} {arr : Array Keyed} {base i : Nat} {Q : Option Bool → SortSt → Prop} (hk : kindOf st = oneType') (hI : IntKeys arr) (hi : base + i < arr.size)
    (h : Q (some (bey left k (K arr (base + i)))) st) : wpS (model prog w) A E s (beyond' left (.int k t, p) arr base i) Q st := by
  obtain ⟨t', q', e⟩ := IntKeys.at hI hi
  unfold beyond'
  refine wpS_bind (wpS_elem e ?_)
  cases left with
  | true => exact wpS_lt hk h
  | false => exact wpS_bind (wpS_lt hk (wpS_pure h))
theorem bey_mono {left : Bool} {k a b : Int} (h : a ≤ b) (hb : bey left k b = true) : bey left k a = true := by
  cases left with
  | true => have hb := of_decide_eq_true hb; exact decide_eq_true (Int.lt_of_le_of_lt h hb)
  | false =>
    have hb : (!decide (k < b)) = true := hb
    show (!decide (k < a)) = true
    simp at hb ⊢
    omega
theorem wpS_gallop {st : SortSt} {left : Bool} {k : Int} {t : Tok} {p : Value} {arr : Array Keyed} {base n hint : Nat} {Q : Option Nat → SortSt → Prop} (hk : kindOf st = oneType') (hI : IntKeys arr) (hz : base + n ≤ arr.size) (hh : hint < n)
    (hs : ∀ i j, i ≤ j → j < n → K arr (base + i) ≤ K arr (base + j))
    (h : ∀ m, m ≤ n → (∀ i, i < m → bey left k (K arr (base + i)) = true) → (∀ i, m ≤ i → i < n → bey left k (K arr (base + i)) = false) → Q (some m) st) :
    wpS (model prog w) A E s (gallop' left (.int k t, p) arr base n hint) Q st := by
  have dn : ∀ i j, i ≤ j → j < n → bey left k (K arr (base + j)) = true → bey left k (K arr (base + i)) = true := fun i j h1 h2 h3 => bey_mono (hs i j h1 h2) h3
  have up : ∀ i j, i ≤ j → j < n → bey left k (K arr (base + i)) = false → bey left k (K arr (base + j)) = false := fun i j h1 h2 h3 => by
    cases e : bey left k (K arr (base + j)) with
    | false => rfl
    | true => rw [dn i j h1 h2 e] at h3; cases h3
  have fin : ∀ lo hi : Nat, lo ≤ hi → hi ≤ n → (∀ i, i < lo → bey left k (K arr (base + i)) = true) → (∀ i, hi ≤ i → i < n → bey left k (K arr (base + i)) = false) →
      ∀ (f : (Option (Option Nat) × Nat × Nat) → StateT SortSt Sem (Option Nat)), (∀ m, f (none, m, m) = pure (some m)) →
      wpS (model prog w) A E s (forIn [0:n] ((none, lo, hi) : Option (Option Nat) × Nat × Nat) (fun _ c => do
        if c.2.1 ≥ c.2.2 then pure (ForInStep.done (none, c.2.1, c.2.2)) else do
          let x ← beyond' left (.int k t, p) arr base (c.2.1 + (c.2.2 - c.2.1) / 2)
          match x with
          | some more => if more = true then pure (ForInStep.yield (none, c.2.1 + (c.2.2 - c.2.1) / 2 + 1, c.2.2)) else pure (ForInStep.yield (none, c.2.1, c.2.1 + (c.2.2 - c.2.1) / 2))
          | _ => pure (ForInStep.done (some none, c.2.1, c.2.2))) >>= f) Q st := by
    intro lo hi hlh hhn hlo hhi f hf
    refine wpS_bind (wpS_mono (wpS_forRange (I := fun x c st' => st' = st ∧ ∃ l r, c = (none, l, r) ∧ l ≤ r ∧ r ≤ n ∧ r - l ≤ n - x ∧ (∀ i, i < l → bey left k (K arr (base + i)) = true) ∧ (∀ i, r ≤ i → i < n → bey left k (K arr (base + i)) = false))
      (Q := fun c st' => st' = st ∧ ∃ m, c = (none, m, m) ∧ m ≤ n ∧ (∀ i, i < m → bey left k (K arr (base + i)) = true) ∧ (∀ i, m ≤ i → i < n → bey left k (K arr (base + i)) = false)) ?step ?fin ⟨rfl, lo, hi, rfl, hlh, hhn, by omega, hlo, hhi⟩) ?post)
    case post =>
      rintro c st' ⟨rfl, m, rfl, hm, a1, a2⟩
      rw [hf]
      exact wpS_pure (h m hm a1 a2)
    case fin =>
      rintro c st' ⟨rfl, l, r, rfl, h1, h2, h3, a1, a2⟩
      have : l = r := by omega
      subst this
      exact ⟨rfl, l, rfl, h2, a1, a2⟩
    case step =>
      rintro x c st' _ hx ⟨rfl, l, r, rfl, h1, h2, h3, a1, a2⟩
      dsimp only
      by_cases hge : l ≥ r
      · rw [if_pos hge]
        have : l = r := by omega
        subst this
        exact wpS_pure ⟨rfl, l, rfl, h2, a1, a2⟩
      · rw [if_neg hge]
        refine wpS_bind (wpS_beyond hk hI (by omega) ?_)
        cases e : bey left k (K arr (base + (l + (r - l) / 2))) with
        | true =>
          dsimp only
          rw [if_pos rfl]
          exact wpS_pure ⟨rfl, _, _, rfl, by omega, h2, by omega, fun i hi => dn i _ (by omega) (by omega) e, a2⟩
        | false =>
          dsimp only
          rw [if_neg (by decide)]
          exact wpS_pure ⟨rfl, _, _, rfl, by omega, by omega, by omega, a1, fun i h4 h5 => up _ i h4 h5 e⟩
  unfold gallop'
  change wpS _ _ _ _ (bind _ _) _ _
  dsimp only
  refine wpS_bind (wpS_beyond hk hI (by omega) ?_)
  cases e : bey left k (K arr (base + hint)) with
  | true =>
    dsimp only
    rw [if_pos rfl]
    refine wpS_bind (wpS_mono (wpS_forRange (I := fun x c st' => st' = st ∧ ∃ l o, c = (none, l, o) ∧ l < o ∧ l < n - hint ∧ x + 1 ≤ o ∧ bey left k (K arr (base + (hint + l))) = true)
      (Q := fun c st' => st' = st ∧ ∃ l o, c = (none, l, o) ∧ l < o ∧ l < n - hint ∧ bey left k (K arr (base + (hint + l))) = true ∧ (n - hint ≤ o ∨ (o < n - hint ∧ bey left k (K arr (base + (hint + o))) = false))) ?step1 ?fin1 ⟨rfl, 0, 1, rfl, by omega, by omega, by omega, e⟩) ?post1)
    case post1 =>
      rintro c st' ⟨rfl, l, o, rfl, h1, h2, h3, h4⟩
      dsimp only
      refine fin (hint + l + 1) (hint + min o (n - hint)) (by omega) (by omega) (fun i hi => dn i (hint + l) (by omega) (by omega) h3) (fun i h5 h6 => ?_) _ (fun m => rfl)
      rcases h4 with h4 | ⟨h4, h7⟩
      · omega
      · exact up (hint + o) i (by omega) h6 h7
    case fin1 =>
      rintro c st' ⟨rfl, l, o, rfl, h1, h2, h3, h4⟩
      exact ⟨rfl, l, o, rfl, h1, h2, h4, .inl (by omega)⟩
    case step1 =>
      rintro x c st' _ hx ⟨rfl, l, o, rfl, h1, h2, h3, h4⟩
      dsimp only
      by_cases hge : o ≥ n - hint
      · rw [if_pos hge]
        exact wpS_pure ⟨rfl, l, o, rfl, h1, h2, h4, .inl hge⟩
      · rw [if_neg hge]
        refine wpS_bind (wpS_beyond hk hI (by omega) ?_)
        cases e2 : bey left k (K arr (base + (hint + o))) with
        | true =>
          dsimp only
          rw [if_neg (by decide)]
          exact wpS_pure ⟨rfl, o, 2 * o + 1, rfl, by omega, by omega, by omega, e2⟩
        | false =>
          dsimp only
          rw [if_pos (by decide)]
          exact wpS_pure ⟨rfl, l, o, rfl, h1, h2, h4, .inr ⟨by omega, e2⟩⟩
  | false =>
    dsimp only
    rw [if_neg (by decide)]
    refine wpS_bind (wpS_mono (wpS_forRange (I := fun x c st' => st' = st ∧ ∃ l o, c = (none, l, o) ∧ l < o ∧ l ≤ hint ∧ x + 1 ≤ o ∧ bey left k (K arr (base + (hint - l))) = false)
      (Q := fun c st' => st' = st ∧ ∃ l o, c = (none, l, o) ∧ l < o ∧ l ≤ hint ∧ bey left k (K arr (base + (hint - l))) = false ∧ (hint + 1 ≤ o ∨ (o ≤ hint ∧ bey left k (K arr (base + (hint - o))) = true))) ?step2 ?fin2 ⟨rfl, 0, 1, rfl, by omega, by omega, by omega, e⟩) ?post2)
    case post2 =>
      rintro c st' ⟨rfl, l, o, rfl, h1, h2, h3, h4⟩
      dsimp only
      refine fin (hint + 1 - min o (hint + 1)) (hint - l) (by omega) (by omega) (fun i hi => ?_) (fun i h5 h6 => up (hint - l) i h5 h6 h3) _ (fun m => rfl)
      rcases h4 with h4 | ⟨h4, h7⟩
      · omega
      · exact dn i (hint - o) (by omega) (by omega) h7
    case fin2 =>
      rintro c st' ⟨rfl, l, o, rfl, h1, h2, h3, h4⟩
      exact ⟨rfl, l, o, rfl, h1, h2, h4, .inl (by omega)⟩
    case step2 =>
      rintro x c st' _ hx ⟨rfl, l, o, rfl, h1, h2, h3, h4⟩
      dsimp only
      by_cases hge : o ≥ hint + 1
      · rw [if_pos hge]
        exact wpS_pure ⟨rfl, l, o, rfl, h1, h2, h4, .inl hge⟩
      · rw [if_neg hge]
        refine wpS_bind (wpS_beyond hk hI (by omega) ?_)
        cases e2 : bey left k (K arr (base + (hint - o))) with
        | true =>
          dsimp only
          rw [if_pos rfl]
          exact wpS_pure ⟨rfl, l, o, rfl, h1, h2, h4, .inr ⟨by omega, e2⟩⟩
        | false =>
          dsimp only
          rw [if_neg (by decide)]
          exact wpS_pure ⟨rfl, o, 2 * o + 1, rfl, by omega, by omega, by omega, e2⟩
end
noncomputable abbrev key (p : Keyed) : Int := numOf p.1
theorem K_at {xs : Array Keyed} {i : Nat} {p : Keyed} (h : xs[i]? = some p) : K xs i = key p := by unfold K; rw [h]
noncomputable def Srt (xs : Array Keyed) : Prop := ∀ i j, i ≤ j → j < xs.size → K xs i ≤ K xs j
structure Mg (a b out : Array Keyed) (ia ib : Nat) : Prop where
  ha : ia ≤ a.size
  hb : ib ≤ b.size
  perm : (out.toList ++ (a.toList.drop ia ++ b.toList.drop ib)).Perm (a.toList ++ b.toList)
  srt : (out.toList.map key).Pairwise (· ≤ ·)
  lea : ∀ x ∈ out.toList, ∀ i, ia ≤ i → i < a.size → key x ≤ K a i
  leb : ∀ x ∈ out.toList, ∀ j, ib ≤ j → j < b.size → key x ≤ K b j
noncomputable def Fin (a b R : Array Keyed) : Prop := R.toList.Perm (a.toList ++ b.toList) ∧ (R.toList.map key).Pairwise (· ≤ ·)
variable {a b out : Array Keyed} {ia ib : Nat}
theorem drop_at {xs : Array Keyed} {i : Nat} {p : Keyed} (h : xs[i]? = some p) : xs.toList.drop i = p :: xs.toList.drop (i + 1) := by
  have hi : i < xs.size := by
    rcases Nat.lt_or_ge i xs.size with z | z
    · exact z
    · rw [Array.getElem?_eq_none z] at h; cases h
  have hi' : i < xs.toList.length := by simpa using hi
  rw [List.drop_eq_getElem_cons hi']
  congr 1
  rw [Array.getElem?_eq_getElem hi] at h
  simpa using h
theorem Mg.pushA (m : Mg a b out ia ib) (sa : Srt a) (sb : Srt b) {p : Keyed} (e : a[ia]? = some p) (hi : ia < a.size) (le : ib < b.size → K a ia ≤ K b ib) : Mg a b (out.push p) (ia + 1) ib := by
  have kp := K_at e
  refine ⟨hi, m.hb, ?_, ?_, ?_, ?_⟩
  · have h := m.perm
    rw [drop_at e] at h
    rw [Array.toList_push, List.append_assoc]
    exact h
  · rw [Array.toList_push, List.map_append, List.pairwise_append]
    refine ⟨m.srt, List.pairwise_singleton _ _, fun x hx y hy => ?_⟩
    obtain ⟨z, hz, rfl⟩ := List.mem_map.mp hx
    have hy : y = key p := by simpa using hy
    rw [hy, ← kp]
    exact m.lea z hz ia (Nat.le_refl _) hi
  · intro x hx i h1 h2
    rw [Array.toList_push, List.mem_append] at hx
    rcases hx with hx | hx
    · exact m.lea x hx i (by omega) h2
    · have : x = p := by simpa using hx
      rw [this, ← kp]
      exact sa ia i (by omega) h2
  · intro x hx j h1 h2
    rw [Array.toList_push, List.mem_append] at hx
    rcases hx with hx | hx
    · exact m.leb x hx j h1 h2
    · have : x = p := by simpa using hx
      rw [this, ← kp]
      exact Int.le_trans (le (by omega)) (sb ib j h1 h2)
theorem perm_turn (o : List Keyed) (x : Keyed) (r u : List Keyed) : (o ++ [x] ++ (r ++ u)).Perm (o ++ (r ++ x :: u)) := by
  rw [List.append_assoc]
  refine List.Perm.append_left o ?_
  show (x :: (r ++ u)).Perm (r ++ x :: u)
  exact List.perm_middle.symm
theorem Mg.pushB (m : Mg a b out ia ib) (sa : Srt a) (sb : Srt b) {p : Keyed} (e : b[ib]? = some p) (hi : ib < b.size) (le : ia < a.size → K b ib ≤ K a ia) : Mg a b (out.push p) ia (ib + 1) := by
  have kp := K_at e
  refine ⟨m.ha, hi, ?_, ?_, ?_, ?_⟩
  · have h := m.perm
    rw [drop_at e] at h
    rw [Array.toList_push]
    exact (perm_turn _ _ _ _).trans h
  · rw [Array.toList_push, List.map_append, List.pairwise_append]
    refine ⟨m.srt, List.pairwise_singleton _ _, fun x hx y hy => ?_⟩
    obtain ⟨z, hz, rfl⟩ := List.mem_map.mp hx
    have hy : y = key p := by simpa using hy
    rw [hy, ← kp]
    exact m.leb z hz ib (Nat.le_refl _) hi
  · intro x hx i h1 h2
    rw [Array.toList_push, List.mem_append] at hx
    rcases hx with hx | hx
    · exact m.lea x hx i h1 h2
    · have : x = p := by simpa using hx
      rw [this, ← kp]
      exact Int.le_trans (le (by omega)) (sa ia i h1 h2)
  · intro x hx j h1 h2
    rw [Array.toList_push, List.mem_append] at hx
    rcases hx with hx | hx
    · exact m.leb x hx j (by omega) h2
    · have : x = p := by simpa using hx
      rw [this, ← kp]
      exact sb ib j (by omega) h2
theorem ext_push {xs : Array Keyed} {i k : Nat} {p : Keyed} (e : xs[i + k]? = some p) : xs.extract i (i + k + 1) = (xs.extract i (i + k)).push p := by
  have hi : i + k < xs.size := by
    rcases Nat.lt_or_ge (i + k) xs.size with z | z
    · exact z
    · rw [Array.getElem?_eq_none z] at e; cases e
  rw [Array.getElem?_eq_getElem hi] at e
  apply Array.ext'
  rw [Array.toList_push, Array.toList_extract, Array.toList_extract]
  simp only [List.extract_eq_take_drop]
  rw [show i + k + 1 - i = k + 1 by omega, show i + k - i = k by omega]
  have hl : k < (xs.toList.drop i).length := by simp; omega
  rw [List.take_succ_eq_append_getElem hl]
  congr 2
  simp
  simpa using e
theorem Mg.takeA (m : Mg a b out ia ib) (sa : Srt a) (sb : Srt b) : ∀ k, ia + k ≤ a.size → (∀ i, i < k → ib < b.size → K a (ia + i) ≤ K b ib) → Mg a b (out ++ a.extract ia (ia + k)) (ia + k) ib
  | 0, _, _ => by
    have e : a.extract ia (ia + 0) = #[] := by simp; omega
    rw [e, Array.append_empty]
    exact m
  | k + 1, h1, h2 => by
    have ih := Mg.takeA m sa sb k (by omega) (fun i hi => h2 i (by omega))
    have e : a[ia + k]? = some a[ia + k] := Array.getElem?_eq_getElem (by omega)
    have e2 := ext_push e
    rw [show ia + (k + 1) = ia + k + 1 by omega, e2, Array.append_push]
    exact ih.pushA sa sb e (by omega) (h2 k (by omega))
theorem Mg.takeB (m : Mg a b out ia ib) (sa : Srt a) (sb : Srt b) : ∀ k, ib + k ≤ b.size → (∀ i, i < k → ia < a.size → K b (ib + i) ≤ K a ia) → Mg a b (out ++ b.extract ib (ib + k)) ia (ib + k)
  | 0, _, _ => by
    have e : b.extract ib (ib + 0) = #[] := by simp; omega
    rw [e, Array.append_empty]
    exact m
  | k + 1, h1, h2 => by
    have ih := Mg.takeB m sa sb k (by omega) (fun i hi => h2 i (by omega))
    have e : b[ib + k]? = some b[ib + k] := Array.getElem?_eq_getElem (by omega)
    have e2 := ext_push e
    rw [show ib + (k + 1) = ib + k + 1 by omega, e2, Array.append_push]
    exact ih.pushB sa sb e (by omega) (h2 k (by omega))
theorem Mg.fin (m : Mg a b out a.size b.size) : Fin a b out := by
  refine ⟨?_, m.srt⟩
  have h := m.perm
  rw [List.drop_eq_nil_of_le (by simp), List.drop_eq_nil_of_le (by simp), List.append_nil, List.append_nil] at h
  exact h
theorem Mg.doneB (m : Mg a b out ia ib) (sa : Srt a) (sb : Srt b) (h : ib = b.size) : Fin a b (out ++ a.extract ia a.size ++ b.extract ib b.size) := by
  subst h
  have h1 := m.takeA sa sb (a.size - ia) (by have := m.ha; omega) (fun i _ z => by omega)
  rw [show ia + (a.size - ia) = a.size by have := m.ha; omega] at h1
  have e : b.extract b.size b.size = #[] := by simp
  rw [e, Array.append_empty]
  exact h1.fin
theorem Mg.doneA (m : Mg a b out ia ib) (sa : Srt a) (sb : Srt b) (h : ia = a.size) : Fin a b (out ++ a.extract ia a.size ++ b.extract ib b.size) := by
  subst h
  have e : a.extract a.size a.size = #[] := by simp
  rw [e, Array.append_empty]
  have h1 := m.takeB sa sb (b.size - ib) (by have := m.hb; omega) (fun i _ z => by omega)
  rw [show ib + (b.size - ib) = b.size by have := m.hb; omega] at h1
  exact h1.fin
theorem Mg.last (m : Mg a b out ia ib) (sa : Srt a) (sb : Srt b) (h : ia + 1 = a.size) (top : ∀ j, j < b.size → K b j ≤ K a ia) : Fin a b (out ++ b.extract ib b.size ++ a.extract ia a.size) := by
  have h1 := m.takeB sa sb (b.size - ib) (by have := m.hb; omega) (fun i _ z => top _ (by omega))
  rw [show ib + (b.size - ib) = b.size by have := m.hb; omega] at h1
  have h2 := h1.takeA sa sb (a.size - ia) (by omega) (fun i _ z => by omega)
  rw [show ia + (a.size - ia) = a.size by omega] at h2
  exact h2.fin
section
variable {prog : Program} {w : World} {A : Around} {E : Value → Shared → Prop} {s : Shared}
noncomputable def setG (st : SortSt) (g : Nat) : SortSt := SortSt.mk' (kindOf st) (arrOf st) (pendingOf st) g (failedOf st)
noncomputable def setMinGallop' : Nat → StateT SortSt Sem Unit := sortPriv% PySem.Builtin.setMinGallop
theorem setMinGallop'_eq (g : Nat) : setMinGallop' g = modify fun s => setG s g := rfl
noncomputable def mergeLo' : Array Keyed → Array Keyed → StateT SortSt Sem (Array Keyed) := sortPriv% PySem.Builtin.mergeLo
theorem wpS_setG {st : SortSt} {g : Nat} {Q : Unit → SortSt → Prop} (h : Q () (setG st g)) : wpS (model prog w) A E s (setMinGallop' g) Q st := by
  rw [setMinGallop'_eq]
  exact wpS_modify h
theorem wpS_mergeLo {st : SortSt} {a b : Array Keyed} {Q : Array Keyed → SortSt → Prop} (hk : kindOf st = oneType') (hA : IntKeys a) (hB : IntKeys b) (sa : Srt a) (sb : Srt b) (na : 1 ≤ a.size) (nb : 1 ≤ b.size) (first : K b 0 ≤ K a 0) (top : ∀ j, j < b.size → K b j ≤ K a (a.size - 1))
    (h : ∀ R g, Fin a b R → Q R (setG st g)) : wpS (model prog w) A E s (mergeLo' a b) Q st := by
  have top' : ∀ i, i + 1 = a.size → ∀ j, j < b.size → K b j ≤ K a i := fun i hi j hj => by
    have := top j hj
    rw [show a.size - 1 = i by omega] at this
    exact this
  have m0 : Mg a b #[] 0 0 := ⟨Nat.zero_le _, Nat.zero_le _, List.Perm.refl _, .nil, (fun x hx => by simp at hx), (fun x hx => by simp at hx)⟩
  obtain ⟨t0, q0, e0⟩ := IntKeys.at hB (show 0 < b.size by omega)
  have m1 := m0.pushB sa sb e0 (by omega) (fun _ => first)
  unfold mergeLo'
  change wpS _ _ _ _ (bind _ _) _ _
  dsimp only
  refine wpS_bind (wpS_lift (wpAny_rule ⟨rfl, ?_⟩))
  refine wpS_bind (wpS_elem e0 ?_)
  by_cases hb1 : 1 = b.size
  · rw [if_pos (by simpa using hb1)]
    exact wpS_pure (h _ (gallopOf st) (m1.doneB sa sb hb1))
  rw [if_neg (by simpa using hb1)]
  by_cases ha1 : 0 + 1 = a.size
  · rw [if_pos (by simpa using ha1)]
    exact wpS_pure (h _ (gallopOf st) (m1.last sa sb ha1 (top' _ ha1)))
  rw [if_neg (by simpa using ha1)]
  refine wpS_bind (wpS_get ?_)
  refine wpS_bind (wpS_mono (wpS_forRange (I := fun x c st' => ∃ g out ia ib mg, st' = setG st g ∧ c = (none, out, ia, ib, mg) ∧ Mg a b out ia ib ∧ ia + 1 < a.size ∧ ib < b.size ∧ x + 1 ≤ ia + ib)
    (Q := fun c st' => ∃ R g r, c = (some R, r) ∧ st' = setG st g ∧ Fin a b R) ?step ?fin ⟨gallopOf st, _, 0, 1, _, rfl, rfl, m1, by omega, by omega, by omega⟩) ?post)
  case post =>
    rintro c st' ⟨R, g, r, rfl, rfl, f⟩
    exact wpS_pure (h R g f)
  case fin =>
    rintro c st' ⟨g, out, ia, ib, mg, rfl, rfl, m, h1, h2, h3⟩
    omega
  case step =>
    rintro x c st' _ hx ⟨g, out, ia, ib, mg, rfl, rfl, m, h1, h2, h3⟩
    dsimp only
    refine wpS_bind (wpS_mono (wpS_forRange (I := fun y c st' => st' = setG st g ∧ ∃ out ia ib ac bc, c = (none, out, ia, ib, ac, bc) ∧ Mg a b out ia ib ∧ ia + 1 < a.size ∧ ib < b.size ∧ x + 1 + y ≤ ia + ib)
      (Q := fun c st' => st' = setG st g ∧ ((∃ R r, c = (some R, r) ∧ Fin a b R) ∨ ∃ out ia ib ac bc, c = (none, out, ia, ib, ac, bc) ∧ Mg a b out ia ib ∧ ia + 1 < a.size ∧ ib < b.size ∧ x + 2 ≤ ia + ib)) ?st1 ?fin1 ⟨rfl, out, ia, ib, 0, 0, rfl, m, h1, h2, by omega⟩) ?post1)
    case fin1 =>
      rintro c st' ⟨rfl, out, ia, ib, ac, bc, rfl, m, h1, h2, h3⟩
      exact ⟨rfl, .inr ⟨out, ia, ib, ac, bc, rfl, m, h1, h2, by omega⟩⟩
    case st1 =>
      rintro y c st' _ hy ⟨rfl, out, ia, ib, ac, bc, rfl, m, h1, h2, h3⟩
      dsimp only
      obtain ⟨tb, qb, eb⟩ := IntKeys.at hB h2
      obtain ⟨ta, qa, ea⟩ := IntKeys.at hA (show ia < a.size by omega)
      refine wpS_bind (wpS_elem eb ?_)
      refine wpS_bind (wpS_elem ea ?_)
      refine wpS_bind (wpS_lt (st := setG st g) hk ?_)
      by_cases hw : K b ib < K a ia
      · simp only [hw, decide_true, if_true]
        have m2 := m.pushB sa sb eb h2 (fun _ => Int.le_of_lt hw)
        refine wpS_bind (wpS_elem eb ?_)
        by_cases h4 : ib + 1 = b.size
        · rw [if_pos (by simpa using h4)]
          exact wpS_pure ⟨rfl, .inl ⟨_, _, rfl, m2.doneB sa sb h4⟩⟩
        · rw [if_neg (by simpa using h4)]
          split
          · exact wpS_pure ⟨rfl, .inr ⟨_, _, _, _, _, rfl, m2, by omega, by omega, by omega⟩⟩
          · exact wpS_pure ⟨rfl, _, _, _, _, _, rfl, m2, by omega, by omega, by omega⟩
      · simp only [hw, decide_false, Bool.false_eq_true, if_false]
        have m2 := m.pushA sa sb ea (by omega) (fun _ => Int.not_lt.mp hw)
        refine wpS_bind (wpS_elem ea ?_)
        by_cases h4 : ia + 1 + 1 = a.size
        · rw [if_pos (by simpa using h4)]
          exact wpS_pure ⟨rfl, .inl ⟨_, _, rfl, m2.last sa sb h4 (top' _ h4)⟩⟩
        · rw [if_neg (by simpa using h4)]
          split
          · exact wpS_pure ⟨rfl, .inr ⟨_, _, _, _, _, rfl, m2, by omega, by omega, by omega⟩⟩
          · exact wpS_pure ⟨rfl, _, _, _, _, _, rfl, m2, by omega, by omega, by omega⟩
    case post1 =>
      rintro c st' ⟨rfl, ⟨R, r, rfl, f⟩ | ⟨out, ia, ib, ac, bc, rfl, m, h1, h2, h3⟩⟩
      · exact wpS_pure ⟨R, g, _, rfl, rfl, f⟩
      dsimp only
      refine wpS_bind (wpS_lift (wpAny_rule ⟨rfl, ?_⟩))
      refine wpS_bind (wpS_mono (wpS_forRange (I := fun y c st' => ∃ g out ia ib mg ac bc, st' = setG st g ∧ c = (none, out, ia, ib, mg, ac, bc) ∧ Mg a b out ia ib ∧ ia + 1 < a.size ∧ ib < b.size ∧ x + 2 ≤ ia + ib)
        (Q := fun c st' => (∃ R g r, c = (some R, r) ∧ st' = setG st g ∧ Fin a b R) ∨ ∃ g out ia ib mg ac bc, st' = setG st g ∧ c = (none, out, ia, ib, mg, ac, bc) ∧ Mg a b out ia ib ∧ ia + 1 < a.size ∧ ib < b.size ∧ x + 2 ≤ ia + ib) ?st2 ?fin2 ⟨g, out, ia, ib, _, ac, bc, rfl, rfl, m, h1, h2, h3⟩) ?post2)
      case fin2 =>
        rintro c st' ⟨g, out, ia, ib, mg, ac, bc, rfl, rfl, m, h1, h2, h3⟩
        exact .inr ⟨g, out, ia, ib, mg, ac, bc, rfl, rfl, m, h1, h2, h3⟩
      case post2 =>
        rintro c st' (⟨R, g, r, rfl, rfl, f⟩ | ⟨g, out, ia, ib, mg, ac, bc, rfl, rfl, m, h1, h2, h3⟩)
        · exact wpS_pure ⟨R, g, _, rfl, rfl, f⟩
        · dsimp only
          refine wpS_bind (wpS_setG ?_)
          exact wpS_pure ⟨mg + 1, out, ia, ib, mg + 1, rfl, rfl, m, h1, h2, by omega⟩
      case st2 =>
        rintro y c st' _ hy ⟨g, out, ia, ib, mg, ac, bc, rfl, rfl, m, h1, hib, h3⟩
        dsimp only
        by_cases hmg : mg > 1
        · rw [if_pos hmg]
          obtain ⟨tb, qb, eb⟩ := IntKeys.at hB hib
          refine wpS_bind (wpS_setG ?_)
          show wpS _ _ _ _ _ _ (setG st (mg - 1))
          obtain ⟨gg, egg⟩ : ∃ gg, (mg - 1) = gg := ⟨_, rfl⟩
          rw [egg]
          refine wpS_bind (wpS_elem eb ?_)
          refine wpS_bind (wpS_gallop (st := setG st gg) hk hA (by omega) (by omega) (fun i j h6 h7 => sa _ _ (by omega) (by omega)) fun k kn low high => ?_)
          dsimp only
          by_cases hk1 : k > 0
          · rw [if_pos hk1]
            have m1 := m.takeA sa sb k (by omega) (fun i hi _ => by have := low i hi; unfold bey at this; simp at this; omega)
            by_cases h2 : ia + k + 1 = a.size
            · rw [if_pos (by simpa using h2)]
              exact wpS_pure (.inl ⟨_, _, _, rfl, rfl, m1.last sa sb h2 (top' _ h2)⟩)
            · rw [if_neg (by simpa using h2)]
              by_cases h3 : ia + k = a.size
              · rw [if_pos (by simpa using h3)]
                exact wpS_pure (.inl ⟨_, _, _, rfl, rfl, m1.doneA sa sb h3⟩)
              · rw [if_neg (by simpa using h3)]
                have leb : ia + k < a.size → K b ib ≤ K a (ia + k) := fun z => by have := high k (Nat.le_refl _) (by omega); unfold bey at this; simp at this; omega
                have m2 := m1.pushB sa sb eb hib leb
                obtain ⟨ta, qa, ea2⟩ := IntKeys.at hA (show ia + k < a.size by omega)
                refine wpS_bind (wpS_elem eb ?_)
                by_cases h4 : ib + 1 = b.size
                · rw [if_pos (by simpa using h4)]
                  exact wpS_pure (.inl ⟨_, _, _, rfl, rfl, m2.doneB sa sb h4⟩)
                · rw [if_neg (by simpa using h4)]
                  refine wpS_bind (wpS_elem ea2 ?_)
                  refine wpS_bind (wpS_gallop (st := setG st gg) hk hB (by omega) (by omega) (fun i j h6 h7 => sb _ _ (by omega) (by omega)) fun k2 k2n low2 high2 => ?_)
                  dsimp only
                  by_cases hk2 : k2 > 0
                  · rw [if_pos hk2]
                    have m2' := m2.takeB sa sb k2 (by omega) (fun i hi _ => Int.le_of_lt (of_decide_eq_true (low2 i hi)))
                    by_cases h8 : ib + 1 + k2 = b.size
                    · rw [if_pos (by simpa using h8)]
                      exact wpS_pure (.inl ⟨_, _, _, rfl, rfl, m2'.doneB sa sb h8⟩)
                    · rw [if_neg (by simpa using h8)]
                      have le3 : ib + 1 + k2 < b.size → K a (ia + k) ≤ K b (ib + 1 + k2) := fun z => Int.not_lt.mp (of_decide_eq_false (high2 k2 (Nat.le_refl _) (by omega)))
                      have m3 := m2'.pushA sa sb ea2 (by omega) le3
                      refine wpS_bind (wpS_elem ea2 ?_)
                      by_cases h5 : ia + k + 1 + 1 = a.size
                      · rw [if_pos (by simpa using h5)]
                        exact wpS_pure (.inl ⟨_, _, _, rfl, rfl, m3.last sa sb h5 (top' _ h5)⟩)
                      · rw [if_neg (by simpa using h5)]
                        split
                        · exact wpS_pure (.inr ⟨_, _, _, _, _, _, _, rfl, rfl, m3, by omega, by omega, by omega⟩)
                        · exact wpS_pure ⟨_, _, _, _, _, _, _, rfl, rfl, m3, by omega, by omega, by omega⟩
                  · rw [if_neg hk2]
                    have k20 : k2 = 0 := by omega
                    subst k20
                    have le3 : ib + 1 < b.size → K a (ia + k) ≤ K b (ib + 1) := fun z => Int.not_lt.mp (of_decide_eq_false (high2 0 (Nat.le_refl _) (by omega)))
                    have m3 := m2.pushA sa sb ea2 (by omega) le3
                    refine wpS_bind (wpS_elem ea2 ?_)
                    by_cases h5 : ia + k + 1 + 1 = a.size
                    · rw [if_pos (by simpa using h5)]
                      exact wpS_pure (.inl ⟨_, _, _, rfl, rfl, m3.last sa sb h5 (top' _ h5)⟩)
                    · rw [if_neg (by simpa using h5)]
                      split
                      · exact wpS_pure (.inr ⟨_, _, _, _, _, _, _, rfl, rfl, m3, by omega, by omega, by omega⟩)
                      · exact wpS_pure ⟨_, _, _, _, _, _, _, rfl, rfl, m3, by omega, by omega, by omega⟩
          · rw [if_neg hk1]
            have k0 : k = 0 := by omega
            subst k0
            have leb : ia < a.size → K b ib ≤ K a (ia) := fun z => by have := high 0 (Nat.le_refl _) (by omega); unfold bey at this; simp at this; omega
            have m2 := m.pushB sa sb eb hib leb
            obtain ⟨ta, qa, ea2⟩ := IntKeys.at hA (show ia < a.size by omega)
            refine wpS_bind (wpS_elem eb ?_)
            by_cases h4 : ib + 1 = b.size
            · rw [if_pos (by simpa using h4)]
              exact wpS_pure (.inl ⟨_, _, _, rfl, rfl, m2.doneB sa sb h4⟩)
            · rw [if_neg (by simpa using h4)]
              refine wpS_bind (wpS_elem ea2 ?_)
              refine wpS_bind (wpS_gallop (st := setG st gg) hk hB (by omega) (by omega) (fun i j h6 h7 => sb _ _ (by omega) (by omega)) fun k2 k2n low2 high2 => ?_)
              dsimp only
              by_cases hk2 : k2 > 0
              · rw [if_pos hk2]
                have m2' := m2.takeB sa sb k2 (by omega) (fun i hi _ => Int.le_of_lt (of_decide_eq_true (low2 i hi)))
                by_cases h8 : ib + 1 + k2 = b.size
                · rw [if_pos (by simpa using h8)]
                  exact wpS_pure (.inl ⟨_, _, _, rfl, rfl, m2'.doneB sa sb h8⟩)
                · rw [if_neg (by simpa using h8)]
                  have le3 : ib + 1 + k2 < b.size → K a ia ≤ K b (ib + 1 + k2) := fun z => Int.not_lt.mp (of_decide_eq_false (high2 k2 (Nat.le_refl _) (by omega)))
                  have m3 := m2'.pushA sa sb ea2 (by omega) le3
                  refine wpS_bind (wpS_elem ea2 ?_)
                  by_cases h5 : ia + 1 + 1 = a.size
                  · rw [if_pos (by simpa using h5)]
                    exact wpS_pure (.inl ⟨_, _, _, rfl, rfl, m3.last sa sb h5 (top' _ h5)⟩)
                  · rw [if_neg (by simpa using h5)]
                    split
                    · exact wpS_pure (.inr ⟨_, _, _, _, _, _, _, rfl, rfl, m3, by omega, by omega, by omega⟩)
                    · exact wpS_pure ⟨_, _, _, _, _, _, _, rfl, rfl, m3, by omega, by omega, by omega⟩
              · rw [if_neg hk2]
                have k20 : k2 = 0 := by omega
                subst k20
                have le3 : ib + 1 < b.size → K a ia ≤ K b (ib + 1) := fun z => Int.not_lt.mp (of_decide_eq_false (high2 0 (Nat.le_refl _) (by omega)))
                have m3 := m2.pushA sa sb ea2 (by omega) le3
                refine wpS_bind (wpS_elem ea2 ?_)
                by_cases h5 : ia + 1 + 1 = a.size
                · rw [if_pos (by simpa using h5)]
                  exact wpS_pure (.inl ⟨_, _, _, rfl, rfl, m3.last sa sb h5 (top' _ h5)⟩)
                · rw [if_neg (by simpa using h5)]
                  split
                  · exact wpS_pure (.inr ⟨_, _, _, _, _, _, _, rfl, rfl, m3, by omega, by omega, by omega⟩)
                  · exact wpS_pure ⟨_, _, _, _, _, _, _, rfl, rfl, m3, by omega, by omega, by omega⟩
        · rw [if_neg hmg]
          obtain ⟨tb, qb, eb⟩ := IntKeys.at hB hib
          refine wpS_bind (wpS_setG ?_)
          show wpS _ _ _ _ _ _ (setG st mg)
          obtain ⟨gg, egg⟩ : ∃ gg, mg = gg := ⟨_, rfl⟩
          rw [egg]
          refine wpS_bind (wpS_elem eb ?_)
          refine wpS_bind (wpS_gallop (st := setG st gg) hk hA (by omega) (by omega) (fun i j h6 h7 => sa _ _ (by omega) (by omega)) fun k kn low high => ?_)
          dsimp only
          by_cases hk1 : k > 0
          · rw [if_pos hk1]
            have m1 := m.takeA sa sb k (by omega) (fun i hi _ => by have := low i hi; unfold bey at this; simp at this; omega)
            by_cases h2 : ia + k + 1 = a.size
            · rw [if_pos (by simpa using h2)]
              exact wpS_pure (.inl ⟨_, _, _, rfl, rfl, m1.last sa sb h2 (top' _ h2)⟩)
            · rw [if_neg (by simpa using h2)]
              by_cases h3 : ia + k = a.size
              · rw [if_pos (by simpa using h3)]
                exact wpS_pure (.inl ⟨_, _, _, rfl, rfl, m1.doneA sa sb h3⟩)
              · rw [if_neg (by simpa using h3)]
                have leb : ia + k < a.size → K b ib ≤ K a (ia + k) := fun z => by have := high k (Nat.le_refl _) (by omega); unfold bey at this; simp at this; omega
                have m2 := m1.pushB sa sb eb hib leb
                obtain ⟨ta, qa, ea2⟩ := IntKeys.at hA (show ia + k < a.size by omega)
                refine wpS_bind (wpS_elem eb ?_)
                by_cases h4 : ib + 1 = b.size
                · rw [if_pos (by simpa using h4)]
                  exact wpS_pure (.inl ⟨_, _, _, rfl, rfl, m2.doneB sa sb h4⟩)
                · rw [if_neg (by simpa using h4)]
                  refine wpS_bind (wpS_elem ea2 ?_)
                  refine wpS_bind (wpS_gallop (st := setG st gg) hk hB (by omega) (by omega) (fun i j h6 h7 => sb _ _ (by omega) (by omega)) fun k2 k2n low2 high2 => ?_)
                  dsimp only
                  by_cases hk2 : k2 > 0
                  · rw [if_pos hk2]
                    have m2' := m2.takeB sa sb k2 (by omega) (fun i hi _ => Int.le_of_lt (of_decide_eq_true (low2 i hi)))
                    by_cases h8 : ib + 1 + k2 = b.size
                    · rw [if_pos (by simpa using h8)]
                      exact wpS_pure (.inl ⟨_, _, _, rfl, rfl, m2'.doneB sa sb h8⟩)
                    · rw [if_neg (by simpa using h8)]
                      have le3 : ib + 1 + k2 < b.size → K a (ia + k) ≤ K b (ib + 1 + k2) := fun z => Int.not_lt.mp (of_decide_eq_false (high2 k2 (Nat.le_refl _) (by omega)))
                      have m3 := m2'.pushA sa sb ea2 (by omega) le3
                      refine wpS_bind (wpS_elem ea2 ?_)
                      by_cases h5 : ia + k + 1 + 1 = a.size
                      · rw [if_pos (by simpa using h5)]
                        exact wpS_pure (.inl ⟨_, _, _, rfl, rfl, m3.last sa sb h5 (top' _ h5)⟩)
                      · rw [if_neg (by simpa using h5)]
                        split
                        · exact wpS_pure (.inr ⟨_, _, _, _, _, _, _, rfl, rfl, m3, by omega, by omega, by omega⟩)
                        · exact wpS_pure ⟨_, _, _, _, _, _, _, rfl, rfl, m3, by omega, by omega, by omega⟩
                  · rw [if_neg hk2]
                    have k20 : k2 = 0 := by omega
                    subst k20
                    have le3 : ib + 1 < b.size → K a (ia + k) ≤ K b (ib + 1) := fun z => Int.not_lt.mp (of_decide_eq_false (high2 0 (Nat.le_refl _) (by omega)))
                    have m3 := m2.pushA sa sb ea2 (by omega) le3
                    refine wpS_bind (wpS_elem ea2 ?_)
                    by_cases h5 : ia + k + 1 + 1 = a.size
                    · rw [if_pos (by simpa using h5)]
                      exact wpS_pure (.inl ⟨_, _, _, rfl, rfl, m3.last sa sb h5 (top' _ h5)⟩)
                    · rw [if_neg (by simpa using h5)]
                      split
                      · exact wpS_pure (.inr ⟨_, _, _, _, _, _, _, rfl, rfl, m3, by omega, by omega, by omega⟩)
                      · exact wpS_pure ⟨_, _, _, _, _, _, _, rfl, rfl, m3, by omega, by omega, by omega⟩
          · rw [if_neg hk1]
            have k0 : k = 0 := by omega
            subst k0
            have leb : ia < a.size → K b ib ≤ K a (ia) := fun z => by have := high 0 (Nat.le_refl _) (by omega); unfold bey at this; simp at this; omega
            have m2 := m.pushB sa sb eb hib leb
            obtain ⟨ta, qa, ea2⟩ := IntKeys.at hA (show ia < a.size by omega)
            refine wpS_bind (wpS_elem eb ?_)
            by_cases h4 : ib + 1 = b.size
            · rw [if_pos (by simpa using h4)]
              exact wpS_pure (.inl ⟨_, _, _, rfl, rfl, m2.doneB sa sb h4⟩)
            · rw [if_neg (by simpa using h4)]
              refine wpS_bind (wpS_elem ea2 ?_)
              refine wpS_bind (wpS_gallop (st := setG st gg) hk hB (by omega) (by omega) (fun i j h6 h7 => sb _ _ (by omega) (by omega)) fun k2 k2n low2 high2 => ?_)
              dsimp only
              by_cases hk2 : k2 > 0
              · rw [if_pos hk2]
                have m2' := m2.takeB sa sb k2 (by omega) (fun i hi _ => Int.le_of_lt (of_decide_eq_true (low2 i hi)))
                by_cases h8 : ib + 1 + k2 = b.size
                · rw [if_pos (by simpa using h8)]
                  exact wpS_pure (.inl ⟨_, _, _, rfl, rfl, m2'.doneB sa sb h8⟩)
                · rw [if_neg (by simpa using h8)]
                  have le3 : ib + 1 + k2 < b.size → K a ia ≤ K b (ib + 1 + k2) := fun z => Int.not_lt.mp (of_decide_eq_false (high2 k2 (Nat.le_refl _) (by omega)))
                  have m3 := m2'.pushA sa sb ea2 (by omega) le3
                  refine wpS_bind (wpS_elem ea2 ?_)
                  by_cases h5 : ia + 1 + 1 = a.size
                  · rw [if_pos (by simpa using h5)]
                    exact wpS_pure (.inl ⟨_, _, _, rfl, rfl, m3.last sa sb h5 (top' _ h5)⟩)
                  · rw [if_neg (by simpa using h5)]
                    split
                    · exact wpS_pure (.inr ⟨_, _, _, _, _, _, _, rfl, rfl, m3, by omega, by omega, by omega⟩)
                    · exact wpS_pure ⟨_, _, _, _, _, _, _, rfl, rfl, m3, by omega, by omega, by omega⟩
              · rw [if_neg hk2]
                have k20 : k2 = 0 := by omega
                subst k20
                have le3 : ib + 1 < b.size → K a ia ≤ K b (ib + 1) := fun z => Int.not_lt.mp (of_decide_eq_false (high2 0 (Nat.le_refl _) (by omega)))
                have m3 := m2.pushA sa sb ea2 (by omega) le3
                refine wpS_bind (wpS_elem ea2 ?_)
                by_cases h5 : ia + 1 + 1 = a.size
                · rw [if_pos (by simpa using h5)]
                  exact wpS_pure (.inl ⟨_, _, _, rfl, rfl, m3.last sa sb h5 (top' _ h5)⟩)
                · rw [if_neg (by simpa using h5)]
                  split
                  · exact wpS_pure (.inr ⟨_, _, _, _, _, _, _, rfl, rfl, m3, by omega, by omega, by omega⟩)
                  · exact wpS_pure ⟨_, _, _, _, _, _, _, rfl, rfl, m3, by omega, by omega, by omega⟩
end
structure Mh (a b out : Array Keyed) (na nb : Nat) : Prop where
  ha : na ≤ a.size
  hb : nb ≤ b.size
  perm : (a.toList.take na ++ (b.toList.take nb ++ out.toList.reverse)).Perm (a.toList ++ b.toList)
  srt : (out.toList.map key).Pairwise (fun x y => y ≤ x)
  lea : ∀ x ∈ out.toList, ∀ i, i < na → K a i ≤ key x
  leb : ∀ x ∈ out.toList, ∀ j, j < nb → K b j ≤ key x
theorem take_at {xs : Array Keyed} {n : Nat} {p : Keyed} (h : xs[n]? = some p) : xs.toList.take (n + 1) = xs.toList.take n ++ [p] := by
  have hi : n < xs.size := by
    rcases Nat.lt_or_ge n xs.size with z | z
    · exact z
    · rw [Array.getElem?_eq_none z] at h; cases h
  have hi' : n < xs.toList.length := by simpa using hi
  rw [List.take_succ_eq_append_getElem hi']
  congr 2
  rw [Array.getElem?_eq_getElem hi] at h
  simpa using h
variable {na nb : Nat}
theorem Mh.pushA (m : Mh a b out (na + 1) nb) (sa : Srt a) (sb : Srt b) {p : Keyed} (e : a[na]? = some p) (le : 0 < nb → K b (nb - 1) ≤ K a na) : Mh a b (out.push p) na nb := by
  have kp := K_at e
  have ha := m.ha
  refine ⟨by omega, m.hb, ?_, ?_, ?_, ?_⟩
  · have h := m.perm
    rw [take_at e] at h
    rw [Array.toList_push, List.reverse_append]
    refine List.Perm.trans ?_ h
    rw [List.append_assoc]
    refine List.Perm.append_left _ ?_
    show (b.toList.take nb ++ p :: out.toList.reverse).Perm (p :: (b.toList.take nb ++ out.toList.reverse))
    exact List.perm_middle
  · rw [Array.toList_push, List.map_append, List.pairwise_append]
    refine ⟨m.srt, List.pairwise_singleton _ _, fun x hx y hy => ?_⟩
    obtain ⟨z, hz, rfl⟩ := List.mem_map.mp hx
    have hy : y = key p := by simpa using hy
    rw [hy, ← kp]
    exact m.lea z hz na (by omega)
  · intro x hx i h1
    rw [Array.toList_push, List.mem_append] at hx
    rcases hx with hx | hx
    · exact m.lea x hx i (by omega)
    · have : x = p := by simpa using hx
      rw [this, ← kp]
      exact sa i na (by omega) (by omega)
  · intro x hx j h1
    rw [Array.toList_push, List.mem_append] at hx
    rcases hx with hx | hx
    · exact m.leb x hx j h1
    · have : x = p := by simpa using hx
      rw [this, ← kp]
      exact Int.le_trans (sb j (nb - 1) (by omega) (by have := m.hb; omega)) (le (by omega))
theorem Mh.pushB (m : Mh a b out na (nb + 1)) (sa : Srt a) (sb : Srt b) {p : Keyed} (e : b[nb]? = some p) (le : 0 < na → K a (na - 1) ≤ K b nb) : Mh a b (out.push p) na nb := by
  have kp := K_at e
  have hb := m.hb
  refine ⟨m.ha, by omega, ?_, ?_, ?_, ?_⟩
  · have h := m.perm
    rw [take_at e] at h
    rw [Array.toList_push, List.reverse_append]
    refine List.Perm.trans ?_ h
    rw [List.append_assoc]
    exact List.Perm.refl _
  · rw [Array.toList_push, List.map_append, List.pairwise_append]
    refine ⟨m.srt, List.pairwise_singleton _ _, fun x hx y hy => ?_⟩
    obtain ⟨z, hz, rfl⟩ := List.mem_map.mp hx
    have hy : y = key p := by simpa using hy
    rw [hy, ← kp]
    exact m.leb z hz nb (by omega)
  · intro x hx i h1
    rw [Array.toList_push, List.mem_append] at hx
    rcases hx with hx | hx
    · exact m.lea x hx i h1
    · have : x = p := by simpa using hx
      rw [this, ← kp]
      exact Int.le_trans (sa i (na - 1) (by omega) (by have := m.ha; omega)) (le (by omega))
  · intro x hx j h1
    rw [Array.toList_push, List.mem_append] at hx
    rcases hx with hx | hx
    · exact m.leb x hx j (by omega)
    · have : x = p := by simpa using hx
      rw [this, ← kp]
      exact sb j nb (by omega) (by omega)
theorem rev_push {xs : Array Keyed} {i n : Nat} {p : Keyed} (hi : i ≤ n) (e : xs[i]? = some p) (hn : n ≤ xs.size) (hlt : i < n) : (xs.extract i n).reverse = (xs.extract (i + 1) n).reverse.push p := by
  have hz : i < xs.size := by omega
  rw [Array.getElem?_eq_getElem hz] at e
  apply Array.ext'
  rw [Array.toList_push, Array.toList_reverse, Array.toList_reverse, Array.toList_extract, Array.toList_extract]
  simp only [List.extract_eq_take_drop]
  have hl : i < xs.toList.length := by simpa using hz
  rw [List.drop_eq_getElem_cons hl, show n - i = (n - (i + 1)) + 1 by omega, List.take_succ_cons, List.reverse_cons]
  congr 2
  simpa using e
theorem Mh.takeA (sa : Srt a) (sb : Srt b) : ∀ (k : Nat) {na : Nat} {out : Array Keyed}, Mh a b out na nb → ∀ lo, lo + k = na → (∀ i, lo ≤ i → i < na → 0 < nb → K b (nb - 1) ≤ K a i) → Mh a b (out ++ (a.extract lo na).reverse) lo nb
  | 0, na, out, m, lo, h, _ => by
    have : lo = na := by omega
    subst this
    have e : a.extract lo lo = #[] := by simp; omega
    rw [e]
    simpa using m
  | k + 1, na, out, m, lo, h, h2 => by
    have ih := Mh.takeA sa sb k m (lo + 1) (by omega) (fun i hi => h2 i (by omega))
    have ha := m.ha
    have e : a[lo]? = some a[lo] := Array.getElem?_eq_getElem (by omega)
    rw [rev_push (by omega) e ha (by omega), Array.append_push]
    exact ih.pushA sa sb e (h2 lo (Nat.le_refl _) (by omega))
theorem Mh.takeB (sa : Srt a) (sb : Srt b) : ∀ (k : Nat) {nb : Nat} {out : Array Keyed}, Mh a b out na nb → ∀ lo, lo + k = nb → (∀ i, lo ≤ i → i < nb → 0 < na → K a (na - 1) ≤ K b i) → Mh a b (out ++ (b.extract lo nb).reverse) na lo
  | 0, nb, out, m, lo, h, _ => by
    have : lo = nb := by omega
    subst this
    have e : b.extract lo lo = #[] := by simp; omega
    rw [e]
    simpa using m
  | k + 1, nb, out, m, lo, h, h2 => by
    have ih := Mh.takeB sa sb k m (lo + 1) (by omega) (fun i hi => h2 i (by omega))
    have hb := m.hb
    have e : b[lo]? = some b[lo] := Array.getElem?_eq_getElem (by omega)
    rw [rev_push (by omega) e hb (by omega), Array.append_push]
    exact ih.pushB sa sb e (h2 lo (Nat.le_refl _) (by omega))
theorem Mh.fin (m : Mh a b out 0 0) : Fin a b out.reverse := by
  have h := m.perm
  refine ⟨?_, ?_⟩
  · rw [Array.toList_reverse]; exact h
  · rw [Array.toList_reverse, List.map_reverse, List.pairwise_reverse]
    exact m.srt
theorem Mh.doneA (m : Mh a b out na nb) (sa : Srt a) (sb : Srt b) (h : na = 0) : Fin a b (a.extract 0 na ++ b.extract 0 nb ++ out.reverse) := by
  subst h
  have h1 := Mh.takeB sa sb nb m 0 (by omega) (fun i _ _ z => by omega)
  have h2 := h1.fin
  have e : a.extract 0 0 = #[] := by simp
  rw [e]
  simpa using h2
theorem Mh.doneB (m : Mh a b out na nb) (sa : Srt a) (sb : Srt b) (h : nb = 0) : Fin a b (a.extract 0 na ++ b.extract 0 nb ++ out.reverse) := by
  subst h
  have h1 := Mh.takeA sa sb na m 0 (by omega) (fun i _ _ z => by omega)
  have h2 := h1.fin
  have e : b.extract 0 0 = #[] := by simp
  rw [e]
  simpa using h2
theorem Mh.firstB (m : Mh a b out na nb) (sa : Srt a) (sb : Srt b) (h : nb = 1) (first : ∀ i, i < a.size → K b 0 ≤ K a i) : Fin a b (b.extract 0 nb ++ a.extract 0 na ++ out.reverse) := by
  subst h
  have h1 := Mh.takeA sa sb na m 0 (by omega) (fun i _ z _ => first i (by have := m.ha; omega))
  have h2 := Mh.takeB sa sb 1 h1 0 rfl (fun i _ _ z => by omega)
  have h3 := h2.fin
  simpa using h3
section
variable {prog : Program} {w : World} {A : Around} {E : Value → Shared → Prop} {s : Shared}
noncomputable def mergeHi' : Array Keyed → Array Keyed → StateT SortSt Sem (Array Keyed) := sortPriv% PySem.Builtin.mergeHi
theorem wpS_mergeHi {st : SortSt} {a b : Array Keyed} {Q : Array Keyed → SortSt → Prop} (hk : kindOf st = oneType') (hA : IntKeys a) (hB : IntKeys b) (sa : Srt a) (sb : Srt b) (na0 : 1 ≤ a.size) (nb0 : 1 ≤ b.size) (first : K b 0 ≤ K a 0) (top : ∀ j, j < b.size → K b j ≤ K a (a.size - 1))
    (h : ∀ R g, Fin a b R → Q R (setG st g)) : wpS (model prog w) A E s (mergeHi' a b) Q st := by
  have first' : ∀ i, i < a.size → K b 0 ≤ K a i := fun i hi => Int.le_trans first (sa 0 i (Nat.zero_le _) hi)
  have m0 : Mh a b #[] (a.size - 1 + 1) b.size := ⟨by omega, Nat.le_refl _, by rw [List.take_of_length_le (by simp; omega), List.take_of_length_le (by simp)]; simp, .nil, (fun x hx => by simp at hx), (fun x hx => by simp at hx)⟩
  obtain ⟨t0, q0, e0⟩ := IntKeys.at hA (show a.size - 1 < a.size by omega)
  have m1 := m0.pushA sa sb e0 (fun _ => top _ (by omega))
  unfold mergeHi'
  change wpS _ _ _ _ (bind _ _) _ _
  dsimp only
  refine wpS_bind (wpS_lift (wpAny_rule ⟨rfl, ?_⟩))
  refine wpS_bind (wpS_elem e0 ?_)
  by_cases ha1 : a.size - 1 = 0
  · rw [if_pos (by simpa using ha1)]
    exact wpS_pure (h _ (gallopOf st) (m1.doneA sa sb ha1))
  rw [if_neg (by simpa using ha1)]
  by_cases hb1 : b.size = 1
  · rw [if_pos (by simpa using hb1)]
    exact wpS_pure (h _ (gallopOf st) (m1.firstB sa sb hb1 first'))
  rw [if_neg (by simpa using hb1)]
  refine wpS_bind (wpS_get ?_)
  refine wpS_bind (wpS_mono (wpS_forRange (I := fun x c st' => ∃ g na nb out mg, st' = setG st g ∧ c = (none, na, nb, out, mg) ∧ Mh a b out na nb ∧ 1 ≤ na ∧ 2 ≤ nb ∧ x + 1 + na + nb ≤ a.size + b.size)
    (Q := fun c st' => ∃ R g r, c = (some R, r) ∧ st' = setG st g ∧ Fin a b R) ?step ?fin ⟨gallopOf st, a.size - 1, b.size, _, _, rfl, rfl, m1, by omega, by omega, by omega⟩) ?post)
  case post =>
    rintro c st' ⟨R, g, r, rfl, rfl, f⟩
    exact wpS_pure (h R g f)
  case fin =>
    rintro c st' ⟨g, na, nb, out, mg, rfl, rfl, m, h1, h2, h3⟩
    omega
  case step =>
    rintro x c st' _ hx ⟨g, na, nb, out, mg, rfl, rfl, m, h1, h2, h3⟩
    dsimp only
    refine wpS_bind (wpS_mono (wpS_forRange (I := fun y c st' => st' = setG st g ∧ ∃ na nb out ac bc, c = (none, na, nb, out, ac, bc) ∧ Mh a b out na nb ∧ 1 ≤ na ∧ 2 ≤ nb ∧ x + 1 + y + na + nb ≤ a.size + b.size)
      (Q := fun c st' => st' = setG st g ∧ ((∃ R r, c = (some R, r) ∧ Fin a b R) ∨ ∃ na nb out ac bc, c = (none, na, nb, out, ac, bc) ∧ Mh a b out na nb ∧ 1 ≤ na ∧ 2 ≤ nb ∧ x + 2 + na + nb ≤ a.size + b.size)) ?st1 ?fin1 ⟨rfl, na, nb, out, 0, 0, rfl, m, h1, h2, by omega⟩) ?post1)
    case fin1 =>
      rintro c st' ⟨rfl, na, nb, out, ac, bc, rfl, m, h1, h2, h3⟩
      exact ⟨rfl, .inr ⟨na, nb, out, ac, bc, rfl, m, h1, h2, by omega⟩⟩
    case st1 =>
      rintro y c st' _ hy ⟨rfl, na, nb, out, ac, bc, rfl, m, h1, h2, h3⟩
      dsimp only
      have haz := m.ha
      have hbz := m.hb
      obtain ⟨tb, qb, eb⟩ := IntKeys.at hB (show nb - 1 < b.size by omega)
      obtain ⟨ta, qa, ea⟩ := IntKeys.at hA (show na - 1 < a.size by omega)
      refine wpS_bind (wpS_elem eb ?_)
      refine wpS_bind (wpS_elem ea ?_)
      refine wpS_bind (wpS_lt (st := setG st g) hk ?_)
      by_cases hw : K b (nb - 1) < K a (na - 1)
      · simp only [hw, decide_true, if_true]
        have m2 : Mh a b _ (na - 1) nb := Mh.pushA (na := na - 1) (by rw [show na - 1 + 1 = na by omega]; exact m) sa sb ea (fun _ => Int.le_of_lt hw)
        refine wpS_bind (wpS_elem ea ?_)
        by_cases h4 : na - 1 = 0
        · rw [if_pos (by simpa using h4)]
          exact wpS_pure ⟨rfl, .inl ⟨_, _, rfl, m2.doneA sa sb h4⟩⟩
        · rw [if_neg (by simpa using h4)]
          split
          · exact wpS_pure ⟨rfl, .inr ⟨_, _, _, _, _, rfl, m2, by omega, by omega, by omega⟩⟩
          · exact wpS_pure ⟨rfl, _, _, _, _, _, rfl, m2, by omega, by omega, by omega⟩
      · simp only [hw, decide_false, Bool.false_eq_true, if_false]
        have m2 : Mh a b _ na (nb - 1) := Mh.pushB (nb := nb - 1) (by rw [show nb - 1 + 1 = nb by omega]; exact m) sa sb eb (fun _ => Int.not_lt.mp hw)
        refine wpS_bind (wpS_elem eb ?_)
        by_cases h4 : nb - 1 = 1
        · rw [if_pos (by simpa using h4)]
          exact wpS_pure ⟨rfl, .inl ⟨_, _, rfl, m2.firstB sa sb h4 first'⟩⟩
        · rw [if_neg (by simpa using h4)]
          split
          · exact wpS_pure ⟨rfl, .inr ⟨_, _, _, _, _, rfl, m2, by omega, by omega, by omega⟩⟩
          · exact wpS_pure ⟨rfl, _, _, _, _, _, rfl, m2, by omega, by omega, by omega⟩
    case post1 =>
      rintro c st' ⟨rfl, ⟨R, r, rfl, f⟩ | ⟨na, nb, out, ac, bc, rfl, m, h1, h2, h3⟩⟩
      · exact wpS_pure ⟨R, g, _, rfl, rfl, f⟩
      dsimp only
      refine wpS_bind (wpS_lift (wpAny_rule ⟨rfl, ?_⟩))
      refine wpS_bind (wpS_mono (wpS_forRange (I := fun y c st' => ∃ g na nb out mg ac bc, st' = setG st g ∧ c = (none, na, nb, out, mg, ac, bc) ∧ Mh a b out na nb ∧ 1 ≤ na ∧ 2 ≤ nb ∧ x + 2 + na + nb ≤ a.size + b.size)
        (Q := fun c st' => (∃ R g r, c = (some R, r) ∧ st' = setG st g ∧ Fin a b R) ∨ ∃ g na nb out mg ac bc, st' = setG st g ∧ c = (none, na, nb, out, mg, ac, bc) ∧ Mh a b out na nb ∧ 1 ≤ na ∧ 2 ≤ nb ∧ x + 2 + na + nb ≤ a.size + b.size) ?st2 ?fin2 ⟨g, na, nb, out, _, ac, bc, rfl, rfl, m, h1, h2, h3⟩) ?post2)
      case fin2 =>
        rintro c st' ⟨g, na, nb, out, mg, ac, bc, rfl, rfl, m, h1, h2, h3⟩
        exact .inr ⟨g, na, nb, out, mg, ac, bc, rfl, rfl, m, h1, h2, h3⟩
      case post2 =>
        rintro c st' (⟨R, g, r, rfl, rfl, f⟩ | ⟨g, na, nb, out, mg, ac, bc, rfl, rfl, m, h1, h2, h3⟩)
        · exact wpS_pure ⟨R, g, _, rfl, rfl, f⟩
        · dsimp only
          refine wpS_bind (wpS_setG ?_)
          exact wpS_pure ⟨mg + 1, na, nb, out, mg + 1, rfl, rfl, m, h1, h2, by omega⟩
      case st2 =>
        rintro y c st' _ hy ⟨g, na, nb, out, mg, ac, bc, rfl, rfl, m, h1, hib, h3⟩
        dsimp only
        by_cases hmg : mg > 1
        · rw [if_pos hmg]
          have hbz : nb ≤ b.size := m.hb
          have haz : na ≤ a.size := m.ha
          obtain ⟨tb, qb, eb⟩ := IntKeys.at hB (show nb - 1 < b.size by omega)
          refine wpS_bind (wpS_setG ?_)
          show wpS _ _ _ _ _ _ (setG st (mg - 1))
          obtain ⟨gg, egg⟩ : ∃ gg, (mg - 1) = gg := ⟨_, rfl⟩
          rw [egg]
          refine wpS_bind (wpS_elem eb ?_)
          refine wpS_bind (wpS_gallop (st := setG st gg) hk hA (by omega) (by omega) (fun i j h6 h7 => sa _ _ (by omega) (by omega)) fun k kn low high => ?_)
          simp only [Nat.zero_add] at low high
          dsimp only
          by_cases hk1 : na - k > 0
          · rw [if_pos hk1]
            have m1 := Mh.takeA sa sb (na - k) m k (by omega) (fun i hi hj _ => by have := high i hi hj; unfold bey at this; simp at this; omega)
            by_cases h2 : k = 0
            · rw [if_pos (by simpa using h2)]
              exact wpS_pure (.inl ⟨_, _, _, rfl, rfl, m1.doneA sa sb h2⟩)
            · rw [if_neg (by simpa using h2)]
              have m2 : Mh a b _ (k) (nb - 1) := Mh.pushB (nb := nb - 1) (by rw [show nb - 1 + 1 = nb by omega]; exact m1) sa sb eb (fun z => by have := low (k - 1) (by omega); unfold bey at this; simp at this; omega)
              have la : k ≤ a.size := m2.ha
              obtain ⟨ta, qa, ea2⟩ := IntKeys.at hA (show k - 1 < a.size by omega)
              refine wpS_bind (wpS_elem eb ?_)
              by_cases h4 : nb - 1 = 1
              · rw [if_pos (by simpa using h4)]
                exact wpS_pure (.inl ⟨_, _, _, rfl, rfl, m2.firstB sa sb h4 first'⟩)
              · rw [if_neg (by simpa using h4)]
                refine wpS_bind (wpS_elem ea2 ?_)
                refine wpS_bind (wpS_gallop (st := setG st gg) hk hB (by omega) (by omega) (fun i j h6 h7 => sb _ _ (by omega) (by omega)) fun k2 k2n low2 high2 => ?_)
                simp only [Nat.zero_add] at low2 high2
                dsimp only
                by_cases hk2 : nb - 1 - k2 > 0
                · rw [if_pos hk2]
                  have m2' := Mh.takeB sa sb (nb - 1 - k2) m2 k2 (by omega) (fun i hi hj _ => Int.not_lt.mp (of_decide_eq_false (high2 i hi hj)))
                  by_cases h8 : k2 = 1
                  · rw [if_pos (by simpa using h8)]
                    exact wpS_pure (.inl ⟨_, _, _, rfl, rfl, m2'.firstB sa sb h8 first'⟩)
                  · rw [if_neg (by simpa using h8)]
                    by_cases h9 : k2 = 0
                    · rw [if_pos (by simpa using h9)]
                      exact wpS_pure (.inl ⟨_, _, _, rfl, rfl, m2'.doneB sa sb h9⟩)
                    · rw [if_neg (by simpa using h9)]
                      have m3 : Mh a b _ (k - 1) (k2) := Mh.pushA (na := k - 1) (by rw [show k - 1 + 1 = k by omega]; exact m2') sa sb ea2 (fun z => Int.le_of_lt (of_decide_eq_true (low2 (k2 - 1) (by omega))))
                      refine wpS_bind (wpS_elem ea2 ?_)
                      by_cases h5 : k - 1 = 0
                      · rw [if_pos (by simpa using h5)]
                        exact wpS_pure (.inl ⟨_, _, _, rfl, rfl, m3.doneA sa sb h5⟩)
                      · rw [if_neg (by simpa using h5)]
                        split
                        · exact wpS_pure (.inr ⟨_, _, _, _, _, _, _, rfl, rfl, m3, by omega, by omega, by omega⟩)
                        · exact wpS_pure ⟨_, _, _, _, _, _, _, rfl, rfl, m3, by omega, by omega, by omega⟩
                · rw [if_neg hk2]
                  have m3 : Mh a b _ (k - 1) (nb - 1) := Mh.pushA (na := k - 1) (by rw [show k - 1 + 1 = k by omega]; exact m2) sa sb ea2 (fun z => Int.le_of_lt (of_decide_eq_true (low2 (nb - 1 - 1) (by omega))))
                  refine wpS_bind (wpS_elem ea2 ?_)
                  by_cases h5 : k - 1 = 0
                  · rw [if_pos (by simpa using h5)]
                    exact wpS_pure (.inl ⟨_, _, _, rfl, rfl, m3.doneA sa sb h5⟩)
                  · rw [if_neg (by simpa using h5)]
                    split
                    · exact wpS_pure (.inr ⟨_, _, _, _, _, _, _, rfl, rfl, m3, by omega, by omega, by omega⟩)
                    · exact wpS_pure ⟨_, _, _, _, _, _, _, rfl, rfl, m3, by omega, by omega, by omega⟩
          · rw [if_neg hk1]
            have m2 : Mh a b _ (na) (nb - 1) := Mh.pushB (nb := nb - 1) (by rw [show nb - 1 + 1 = nb by omega]; exact m) sa sb eb (fun z => by have := low (na - 1) (by omega); unfold bey at this; simp at this; omega)
            have la : na ≤ a.size := m2.ha
            obtain ⟨ta, qa, ea2⟩ := IntKeys.at hA (show na - 1 < a.size by omega)
            refine wpS_bind (wpS_elem eb ?_)
            by_cases h4 : nb - 1 = 1
            · rw [if_pos (by simpa using h4)]
              exact wpS_pure (.inl ⟨_, _, _, rfl, rfl, m2.firstB sa sb h4 first'⟩)
            · rw [if_neg (by simpa using h4)]
              refine wpS_bind (wpS_elem ea2 ?_)
              refine wpS_bind (wpS_gallop (st := setG st gg) hk hB (by omega) (by omega) (fun i j h6 h7 => sb _ _ (by omega) (by omega)) fun k2 k2n low2 high2 => ?_)
              simp only [Nat.zero_add] at low2 high2
              dsimp only
              by_cases hk2 : nb - 1 - k2 > 0
              · rw [if_pos hk2]
                have m2' := Mh.takeB sa sb (nb - 1 - k2) m2 k2 (by omega) (fun i hi hj _ => Int.not_lt.mp (of_decide_eq_false (high2 i hi hj)))
                by_cases h8 : k2 = 1
                · rw [if_pos (by simpa using h8)]
                  exact wpS_pure (.inl ⟨_, _, _, rfl, rfl, m2'.firstB sa sb h8 first'⟩)
                · rw [if_neg (by simpa using h8)]
                  by_cases h9 : k2 = 0
                  · rw [if_pos (by simpa using h9)]
                    exact wpS_pure (.inl ⟨_, _, _, rfl, rfl, m2'.doneB sa sb h9⟩)
                  · rw [if_neg (by simpa using h9)]
                    have m3 : Mh a b _ (na - 1) (k2) := Mh.pushA (na := na - 1) (by rw [show na - 1 + 1 = na by omega]; exact m2') sa sb ea2 (fun z => Int.le_of_lt (of_decide_eq_true (low2 (k2 - 1) (by omega))))
                    refine wpS_bind (wpS_elem ea2 ?_)
                    by_cases h5 : na - 1 = 0
                    · rw [if_pos (by simpa using h5)]
                      exact wpS_pure (.inl ⟨_, _, _, rfl, rfl, m3.doneA sa sb h5⟩)
                    · rw [if_neg (by simpa using h5)]
                      split
                      · exact wpS_pure (.inr ⟨_, _, _, _, _, _, _, rfl, rfl, m3, by omega, by omega, by omega⟩)
                      · exact wpS_pure ⟨_, _, _, _, _, _, _, rfl, rfl, m3, by omega, by omega, by omega⟩
              · rw [if_neg hk2]
                have m3 : Mh a b _ (na - 1) (nb - 1) := Mh.pushA (na := na - 1) (by rw [show na - 1 + 1 = na by omega]; exact m2) sa sb ea2 (fun z => Int.le_of_lt (of_decide_eq_true (low2 (nb - 1 - 1) (by omega))))
                refine wpS_bind (wpS_elem ea2 ?_)
                by_cases h5 : na - 1 = 0
                · rw [if_pos (by simpa using h5)]
                  exact wpS_pure (.inl ⟨_, _, _, rfl, rfl, m3.doneA sa sb h5⟩)
                · rw [if_neg (by simpa using h5)]
                  split
                  · exact wpS_pure (.inr ⟨_, _, _, _, _, _, _, rfl, rfl, m3, by omega, by omega, by omega⟩)
                  · exact wpS_pure ⟨_, _, _, _, _, _, _, rfl, rfl, m3, by omega, by omega, by omega⟩
        · rw [if_neg hmg]
          have hbz : nb ≤ b.size := m.hb
          have haz : na ≤ a.size := m.ha
          obtain ⟨tb, qb, eb⟩ := IntKeys.at hB (show nb - 1 < b.size by omega)
          refine wpS_bind (wpS_setG ?_)
          show wpS _ _ _ _ _ _ (setG st mg)
          obtain ⟨gg, egg⟩ : ∃ gg, mg = gg := ⟨_, rfl⟩
          rw [egg]
          refine wpS_bind (wpS_elem eb ?_)
          refine wpS_bind (wpS_gallop (st := setG st gg) hk hA (by omega) (by omega) (fun i j h6 h7 => sa _ _ (by omega) (by omega)) fun k kn low high => ?_)
          simp only [Nat.zero_add] at low high
          dsimp only
          by_cases hk1 : na - k > 0
          · rw [if_pos hk1]
            have m1 := Mh.takeA sa sb (na - k) m k (by omega) (fun i hi hj _ => by have := high i hi hj; unfold bey at this; simp at this; omega)
            by_cases h2 : k = 0
            · rw [if_pos (by simpa using h2)]
              exact wpS_pure (.inl ⟨_, _, _, rfl, rfl, m1.doneA sa sb h2⟩)
            · rw [if_neg (by simpa using h2)]
              have m2 : Mh a b _ (k) (nb - 1) := Mh.pushB (nb := nb - 1) (by rw [show nb - 1 + 1 = nb by omega]; exact m1) sa sb eb (fun z => by have := low (k - 1) (by omega); unfold bey at this; simp at this; omega)
              have la : k ≤ a.size := m2.ha
              obtain ⟨ta, qa, ea2⟩ := IntKeys.at hA (show k - 1 < a.size by omega)
              refine wpS_bind (wpS_elem eb ?_)
              by_cases h4 : nb - 1 = 1
              · rw [if_pos (by simpa using h4)]
                exact wpS_pure (.inl ⟨_, _, _, rfl, rfl, m2.firstB sa sb h4 first'⟩)
              · rw [if_neg (by simpa using h4)]
                refine wpS_bind (wpS_elem ea2 ?_)
                refine wpS_bind (wpS_gallop (st := setG st gg) hk hB (by omega) (by omega) (fun i j h6 h7 => sb _ _ (by omega) (by omega)) fun k2 k2n low2 high2 => ?_)
                simp only [Nat.zero_add] at low2 high2
                dsimp only
                by_cases hk2 : nb - 1 - k2 > 0
                · rw [if_pos hk2]
                  have m2' := Mh.takeB sa sb (nb - 1 - k2) m2 k2 (by omega) (fun i hi hj _ => Int.not_lt.mp (of_decide_eq_false (high2 i hi hj)))
                  by_cases h8 : k2 = 1
                  · rw [if_pos (by simpa using h8)]
                    exact wpS_pure (.inl ⟨_, _, _, rfl, rfl, m2'.firstB sa sb h8 first'⟩)
                  · rw [if_neg (by simpa using h8)]
                    by_cases h9 : k2 = 0
                    · rw [if_pos (by simpa using h9)]
                      exact wpS_pure (.inl ⟨_, _, _, rfl, rfl, m2'.doneB sa sb h9⟩)
                    · rw [if_neg (by simpa using h9)]
                      have m3 : Mh a b _ (k - 1) (k2) := Mh.pushA (na := k - 1) (by rw [show k - 1 + 1 = k by omega]; exact m2') sa sb ea2 (fun z => Int.le_of_lt (of_decide_eq_true (low2 (k2 - 1) (by omega))))
                      refine wpS_bind (wpS_elem ea2 ?_)
                      by_cases h5 : k - 1 = 0
                      · rw [if_pos (by simpa using h5)]
                        exact wpS_pure (.inl ⟨_, _, _, rfl, rfl, m3.doneA sa sb h5⟩)
                      · rw [if_neg (by simpa using h5)]
                        split
                        · exact wpS_pure (.inr ⟨_, _, _, _, _, _, _, rfl, rfl, m3, by omega, by omega, by omega⟩)
                        · exact wpS_pure ⟨_, _, _, _, _, _, _, rfl, rfl, m3, by omega, by omega, by omega⟩
                · rw [if_neg hk2]
                  have m3 : Mh a b _ (k - 1) (nb - 1) := Mh.pushA (na := k - 1) (by rw [show k - 1 + 1 = k by omega]; exact m2) sa sb ea2 (fun z => Int.le_of_lt (of_decide_eq_true (low2 (nb - 1 - 1) (by omega))))
                  refine wpS_bind (wpS_elem ea2 ?_)
                  by_cases h5 : k - 1 = 0
                  · rw [if_pos (by simpa using h5)]
                    exact wpS_pure (.inl ⟨_, _, _, rfl, rfl, m3.doneA sa sb h5⟩)
                  · rw [if_neg (by simpa using h5)]
                    split
                    · exact wpS_pure (.inr ⟨_, _, _, _, _, _, _, rfl, rfl, m3, by omega, by omega, by omega⟩)
                    · exact wpS_pure ⟨_, _, _, _, _, _, _, rfl, rfl, m3, by omega, by omega, by omega⟩
          · rw [if_neg hk1]
            have m2 : Mh a b _ (na) (nb - 1) := Mh.pushB (nb := nb - 1) (by rw [show nb - 1 + 1 = nb by omega]; exact m) sa sb eb (fun z => by have := low (na - 1) (by omega); unfold bey at this; simp at this; omega)
            have la : na ≤ a.size := m2.ha
            obtain ⟨ta, qa, ea2⟩ := IntKeys.at hA (show na - 1 < a.size by omega)
            refine wpS_bind (wpS_elem eb ?_)
            by_cases h4 : nb - 1 = 1
            · rw [if_pos (by simpa using h4)]
              exact wpS_pure (.inl ⟨_, _, _, rfl, rfl, m2.firstB sa sb h4 first'⟩)
            · rw [if_neg (by simpa using h4)]
              refine wpS_bind (wpS_elem ea2 ?_)
              refine wpS_bind (wpS_gallop (st := setG st gg) hk hB (by omega) (by omega) (fun i j h6 h7 => sb _ _ (by omega) (by omega)) fun k2 k2n low2 high2 => ?_)
              simp only [Nat.zero_add] at low2 high2
              dsimp only
              by_cases hk2 : nb - 1 - k2 > 0
              · rw [if_pos hk2]
                have m2' := Mh.takeB sa sb (nb - 1 - k2) m2 k2 (by omega) (fun i hi hj _ => Int.not_lt.mp (of_decide_eq_false (high2 i hi hj)))
                by_cases h8 : k2 = 1
                · rw [if_pos (by simpa using h8)]
                  exact wpS_pure (.inl ⟨_, _, _, rfl, rfl, m2'.firstB sa sb h8 first'⟩)
                · rw [if_neg (by simpa using h8)]
                  by_cases h9 : k2 = 0
                  · rw [if_pos (by simpa using h9)]
                    exact wpS_pure (.inl ⟨_, _, _, rfl, rfl, m2'.doneB sa sb h9⟩)
                  · rw [if_neg (by simpa using h9)]
                    have m3 : Mh a b _ (na - 1) (k2) := Mh.pushA (na := na - 1) (by rw [show na - 1 + 1 = na by omega]; exact m2') sa sb ea2 (fun z => Int.le_of_lt (of_decide_eq_true (low2 (k2 - 1) (by omega))))
                    refine wpS_bind (wpS_elem ea2 ?_)
                    by_cases h5 : na - 1 = 0
                    · rw [if_pos (by simpa using h5)]
                      exact wpS_pure (.inl ⟨_, _, _, rfl, rfl, m3.doneA sa sb h5⟩)
                    · rw [if_neg (by simpa using h5)]
                      split
                      · exact wpS_pure (.inr ⟨_, _, _, _, _, _, _, rfl, rfl, m3, by omega, by omega, by omega⟩)
                      · exact wpS_pure ⟨_, _, _, _, _, _, _, rfl, rfl, m3, by omega, by omega, by omega⟩
              · rw [if_neg hk2]
                have m3 : Mh a b _ (na - 1) (nb - 1) := Mh.pushA (na := na - 1) (by rw [show na - 1 + 1 = na by omega]; exact m2) sa sb ea2 (fun z => Int.le_of_lt (of_decide_eq_true (low2 (nb - 1 - 1) (by omega))))
                refine wpS_bind (wpS_elem ea2 ?_)
                by_cases h5 : na - 1 = 0
                · rw [if_pos (by simpa using h5)]
                  exact wpS_pure (.inl ⟨_, _, _, rfl, rfl, m3.doneA sa sb h5⟩)
                · rw [if_neg (by simpa using h5)]
                  split
                  · exact wpS_pure (.inr ⟨_, _, _, _, _, _, _, rfl, rfl, m3, by omega, by omega, by omega⟩)
                  · exact wpS_pure ⟨_, _, _, _, _, _, _, rfl, rfl, m3, by omega, by omega, by omega⟩
end
theorem put_list : ∀ (l : List Keyed) (n : Nat) (xs : Array Keyed) (pos : Nat), pos + n + l.length ≤ xs.size → ((l.zipIdx n).foldl (fun a x => a.setIfInBounds (pos + x.2) x.1) xs).toList = xs.toList.take (pos + n) ++ (l ++ xs.toList.drop (pos + n + l.length))
  | [], n, xs, pos, h => by simp
  | p :: l, n, xs, pos, h => by
    have hl : (p :: l).length = l.length + 1 := rfl
    rw [hl] at h ⊢
    rw [List.zipIdx_cons, List.foldl_cons]
    have ih := put_list l (n + 1) (xs.setIfInBounds (pos + n) p) pos (by rw [Array.size_setIfInBounds]; omega)
    rw [ih, Array.toList_setIfInBounds]
    have hlen : xs.toList.length = xs.size := by simp
    rw [show pos + (n + 1) = pos + n + 1 by omega, List.take_set, List.drop_set_of_lt (by omega)]
    rw [List.take_succ_eq_append_getElem (by omega), List.set_append_right _ _ (by rw [List.length_take]; omega)]
    rw [show pos + n - (xs.toList.take (pos + n)).length = 0 by rw [List.length_take]; omega]
    show (xs.toList.take (pos + n) ++ [p]) ++ (l ++ _) = _
    rw [List.append_assoc, show pos + n + 1 + l.length = pos + n + (l.length + 1) by omega]
    rfl
theorem mem_part {xs : Array Keyed} {lo m : Nat} {z : Keyed} (h : z ∈ (xs.toList.drop lo).take m) : ∃ i, lo ≤ i ∧ i < lo + m ∧ i < xs.size ∧ key z = K xs i := by
  obtain ⟨j, hj⟩ := List.getElem?_of_mem h
  have hjl := (List.getElem?_eq_some_iff.mp hj).1
  rw [List.length_take, List.length_drop] at hjl
  have hlen : xs.toList.length = xs.size := by simp
  rw [List.getElem?_take_of_lt (by omega), List.getElem?_drop] at hj
  refine ⟨lo + j, by omega, by omega, by omega, ?_⟩
  rw [K_at (p := z) (by rw [← Array.getElem?_toList]; exact hj)]
theorem pw_part {xs : Array Keyed} {lo m : Nat} (h : ∀ i j, lo ≤ i → i ≤ j → j < lo + m → j < xs.size → K xs i ≤ K xs j) : (((xs.toList.drop lo).take m).map key).Pairwise (· ≤ ·) := by
  rw [List.pairwise_iff_getElem]
  intro p q hp hq hpq
  have hlen : xs.toList.length = xs.size := by simp
  have hq' := hq
  rw [List.length_map, List.length_take, List.length_drop] at hq'
  have e : ∀ r (hr : r < (((xs.toList.drop lo).take m).map key).length), (((xs.toList.drop lo).take m).map key)[r] = K xs (lo + r) := by
    intro r hr
    have hr' := hr
    rw [List.length_map, List.length_take, List.length_drop] at hr'
    rw [List.getElem_map, List.getElem_take, List.getElem_drop]
    have hz : lo + r < xs.size := by omega
    rw [K_at (p := xs[lo + r]) (Array.getElem?_eq_getElem hz)]
    rfl
  rw [e p hp, e q hq]
  exact h _ _ (by omega) (by omega) (by omega) (by omega)
theorem srt_of {xs : Array Keyed} (h : (xs.toList.map key).Pairwise (· ≤ ·)) : Srt xs := by
  intro i j hij hj
  by_cases e : i = j
  · subst e; exact Int.le_refl _
  · rw [List.pairwise_iff_getElem] at h
    have hj' : j < (xs.toList.map key).length := by simpa using hj
    have h3 := h i j (by omega) hj' (by omega)
    rw [List.getElem_map, List.getElem_map] at h3
    rw [K_at (p := xs[i]'(by omega)) (Array.getElem?_eq_getElem _), K_at (p := xs[j]) (Array.getElem?_eq_getElem _)]
    simpa using h3
theorem ext_list (xs : Array Keyed) (lo hi : Nat) : (xs.extract lo hi).toList = (xs.toList.drop lo).take (hi - lo) := by
  rw [Array.toList_extract, List.extract_eq_take_drop]
theorem K_ext {xs : Array Keyed} {lo hi i : Nat} (h : lo + i < hi) (hz : hi ≤ xs.size) : K (xs.extract lo hi) i = K xs (lo + i) := by
  refine K_congr ?_
  rw [Array.getElem?_extract_of_lt (by omega)]
  exact (Array.getElem?_eq_getElem (by omega)).symm
theorem ext_keys {xs : Array Keyed} (h : IntKeys xs) (lo hi : Nat) : IntKeys (xs.extract lo hi) := fun p hp => by
  rw [ext_list] at hp
  exact h p (List.mem_of_mem_drop (List.mem_of_mem_take hp))
section
variable {prog : Program} {w : World} {A : Around} {E : Value → Shared → Prop} {s : Shared}
theorem wpS_set {σ : Type} {M : Model} {st st' : σ} {Q : PUnit → σ → Prop} (h : Q ⟨⟩ st') : wpS M A E s (set st' : StateT σ Sem PUnit) Q st := by
  unfold wpS; rw [StateT.run_set]; exact wpAny_pure ⟨rfl, h⟩
theorem wpS_mergeAt {st : SortSt} {Q : Bool → SortSt → Prop} {n1 n2 pw : Nat} (hk : kindOf st = oneType') (hI : IntKeys (arrOf st)) (hf : failedOf st = none) (hp : pendingOf st = #[(0, n1, pw), (n1, n2, 0)]) (hz : (arrOf st).size = n1 + n2) (h1 : 1 ≤ n1) (h2 : 1 ≤ n2)
    (s1 : ∀ i j, i ≤ j → j < n1 → K (arrOf st) i ≤ K (arrOf st) j) (s2 : ∀ i j, n1 ≤ i → i ≤ j → j < n1 + n2 → K (arrOf st) i ≤ K (arrOf st) j)
    (h : ∀ st', failedOf st' = none → pendingOf st' = #[(0, n1 + n2, pw)] → (arrOf st').Perm (arrOf st) → Srt (arrOf st') → Q true st') : wpS (model prog w) A E s (mergeAt' 0) Q st := by
  have both : ∀ c : Nat, c < n1 → (∀ i, i < n1 → K (arrOf st) i ≤ K (arrOf st) n1) → Srt (arrOf st) := fun c _ hc i j hij hj => by
    rw [hz] at hj
    by_cases z1 : j < n1
    · exact s1 i j hij z1
    · by_cases z2 : n1 ≤ i
      · exact s2 i j z2 hij hj
      · exact Int.le_trans (hc i (by omega)) (s2 n1 j (Nat.le_refl _) (by omega) hj)
  unfold mergeAt'
  change wpS _ _ _ _ (bind _ _) _ _
  refine wpS_bind (wpS_get ?_)
  dsimp only
  have hp' : (sortPriv% PySem.Builtin.SortState.pending) st = #[(0, n1, pw), (n1, n2, 0)] := hp
  rw [hp']
  have ha' : ∀ z : SortSt, (sortPriv% PySem.Builtin.SortState.a) z = arrOf z := fun _ => rfl
  simp only [ha']
  have ep : ((#[(0, n1, pw), (n1, n2, 0)] : Array (Nat × Nat × Nat)).setIfInBounds 0 (0, n1 + n2, pw)).eraseIdxIfInBounds (0 + 1) = #[(0, n1 + n2, pw)] := by simp [Array.eraseIdxIfInBounds]
  show wpS _ _ _ _ (do
    set (setPending st (((#[(0, n1, pw), (n1, n2, 0)] : Array (Nat × Nat × Nat)).setIfInBounds 0 (0, n1 + n2, pw)).eraseIdxIfInBounds (0 + 1)))
    _) _ _
  rw [ep]
  refine wpS_bind (wpS_set ?_)
  obtain ⟨tb, qb, eb⟩ := IntKeys.at hI (show n1 < (arrOf st).size by omega)
  refine wpS_bind (wpS_elem eb ?_)
  refine wpS_bind (wpS_gallop (st := setPending st #[(0, n1 + n2, pw)]) hk hI (by omega) (by omega) (fun i j h6 h7 => by rw [Nat.zero_add, Nat.zero_add]; exact s1 _ _ h6 h7) fun k kn low high => ?_)
  simp only [Nat.zero_add] at low high
  dsimp only
  have lowK : ∀ i, i < k → K (arrOf st) i ≤ K (arrOf st) n1 := fun i hi => by have := low i hi; unfold bey at this; simp at this; omega
  by_cases hk0 : n1 - k = 0
  · rw [if_pos (by simpa using hk0)]
    exact wpS_pure (h _ hf rfl (Array.Perm.refl _) (both 0 (by omega) fun i hi => lowK i (by omega)))
  rw [if_neg (by simpa using hk0)]
  have highK : K (arrOf st) n1 < K (arrOf st) k := by have := high k (Nat.le_refl _) (by omega); unfold bey at this; simp at this; omega
  obtain ⟨ta, qa, ea⟩ := IntKeys.at hI (show n1 - 1 < (arrOf st).size by omega)
  rw [show 0 + k + (n1 - k) - 1 = n1 - 1 by omega]
  refine wpS_bind (wpS_elem ea ?_)
  refine wpS_bind (wpS_gallop (st := setPending st #[(0, n1 + n2, pw)]) hk hI (by omega) (by omega) (fun i j h6 h7 => s2 _ _ (by omega) (by omega) (by omega)) fun nb nbn low2 high2 => ?_)
  dsimp only
  by_cases hb0 : nb = 0
  · rw [if_pos (by simpa using hb0)]
    subst hb0
    have hh : K (arrOf st) (n1 - 1) ≤ K (arrOf st) n1 := Int.not_lt.mp (of_decide_eq_false (high2 0 (Nat.le_refl _) (by omega)))
    exact wpS_pure (h _ hf rfl (Array.Perm.refl _) (both 0 (by omega) fun i hi => Int.le_trans (s1 i (n1 - 1) (by omega) (by omega)) hh))
  rw [if_neg (by simpa using hb0)]
  have lowB : ∀ j, j < nb → K (arrOf st) (n1 + j) < K (arrOf st) (n1 - 1) := fun j hj => of_decide_eq_true (low2 j hj)
  have hX := ext_keys hI (0 + k) n1
  have hY := ext_keys hI n1 (n1 + nb)
  have zx : ((arrOf st).extract (0 + k) n1).size = n1 - k := by rw [Array.size_extract]; omega
  have zy : ((arrOf st).extract n1 (n1 + nb)).size = nb := by rw [Array.size_extract]; omega
  have kx : ∀ i, i < n1 - k → K ((arrOf st).extract (0 + k) n1) i = K (arrOf st) (k + i) := fun i hi => by rw [K_ext (by omega) (by omega), Nat.zero_add]
  have ky : ∀ j, j < nb → K ((arrOf st).extract n1 (n1 + nb)) j = K (arrOf st) (n1 + j) := fun j hj => K_ext (by omega) (by omega)
  have sx : Srt ((arrOf st).extract (0 + k) n1) := fun i j hij hj => by
    rw [zx] at hj
    rw [kx i (by omega), kx j hj]
    exact s1 _ _ (by omega) (by omega)
  have sy : Srt ((arrOf st).extract n1 (n1 + nb)) := fun i j hij hj => by
    rw [zy] at hj
    rw [ky i (by omega), ky j hj]
    exact s2 _ _ (by omega) (by omega) (by omega)
  have fst' : K ((arrOf st).extract n1 (n1 + nb)) 0 ≤ K ((arrOf st).extract (0 + k) n1) 0 := by
    rw [ky 0 (by omega), kx 0 (by omega)]
    exact Int.le_of_lt highK
  have top' : ∀ j, j < ((arrOf st).extract n1 (n1 + nb)).size → K ((arrOf st).extract n1 (n1 + nb)) j ≤ K ((arrOf st).extract (0 + k) n1) (((arrOf st).extract (0 + k) n1).size - 1) := fun j hj => by
    rw [zy] at hj
    rw [zx, ky j hj, kx _ (by omega), show k + (n1 - k - 1) = n1 - 1 by omega]
    exact Int.le_of_lt (lowB j hj)
  have done : ∀ R g, Fin ((arrOf st).extract (0 + k) n1) ((arrOf st).extract n1 (n1 + nb)) R → Q true (setArr (setG (setPending st #[(0, n1 + n2, pw)]) g) (R.toList.zipIdx.foldl (fun a x => a.setIfInBounds (0 + k + x.2) x.1) (arrOf st))) := by
    intro R g f
    have lx : ((arrOf st).extract (0 + k) n1).toList.length = n1 - k := by rw [Array.length_toList]; exact zx
    have lyy : ((arrOf st).extract n1 (n1 + nb)).toList.length = nb := by rw [Array.length_toList]; exact zy
    have lR : R.toList.length = n1 - k + nb := by rw [f.1.length_eq, List.length_append, lx, lyy]
    have e1 := put_list R.toList 0 (arrOf st) (0 + k) (by rw [lR]; omega)
    rw [lR, show 0 + k + 0 = k by omega, show k + (n1 - k + nb) = n1 + nb by omega] at e1
    have ex := ext_list (arrOf st) (0 + k) n1
    have ey := ext_list (arrOf st) n1 (n1 + nb)
    rw [show n1 + nb - n1 = nb by omega] at ey
    rw [Nat.zero_add] at ex
    have e2 : (arrOf st).toList = (arrOf st).toList.take k ++ ((((arrOf st).toList.drop k).take (n1 - k) ++ ((arrOf st).toList.drop n1).take nb) ++ (arrOf st).toList.drop (n1 + nb)) := by
      rw [List.append_assoc]
      conv => lhs; rw [← List.take_append_drop k (arrOf st).toList]
      congr 1
      conv => lhs; rw [← List.take_append_drop (n1 - k) ((arrOf st).toList.drop k)]
      rw [List.drop_drop, show k + (n1 - k) = n1 by omega]
      congr 1
      conv => lhs; rw [← List.take_append_drop nb ((arrOf st).toList.drop n1)]
      rw [List.drop_drop]
    have fp := f.1
    rw [Nat.zero_add, ex, ey] at fp
    refine h _ hf rfl ?_ (srt_of ?_)
    · refine Array.perm_iff_toList_perm.mpr ?_
      show (R.toList.zipIdx.foldl (fun a x => a.setIfInBounds (0 + k + x.2) x.1) (arrOf st)).toList.Perm _
      rw [e1]
      conv => rhs; rw [e2]
      exact List.Perm.append_left _ (List.Perm.append_right _ fp)
    · show ((R.toList.zipIdx.foldl (fun a x => a.setIfInBounds (0 + k + x.2) x.1) (arrOf st)).toList.map key).Pairwise _
      rw [e1, List.map_append, List.map_append, List.pairwise_append, List.pairwise_append]
      have pP : (((arrOf st).toList.take k).map key).Pairwise (· ≤ ·) := by
        have := pw_part (xs := arrOf st) (lo := 0) (m := k) (fun i j _ hij hj _ => s1 i j hij (by omega))
        rw [List.drop_zero] at this
        exact this
      have hlen : (arrOf st).toList.length = n1 + n2 := by simpa using hz
      have eS : (arrOf st).toList.drop (n1 + nb) = ((arrOf st).toList.drop (n1 + nb)).take (n1 + n2) := by rw [List.take_of_length_le (by rw [List.length_drop]; omega)]
      have pS : (((arrOf st).toList.drop (n1 + nb)).map key).Pairwise (· ≤ ·) := by
        rw [eS]
        exact pw_part (fun i j hi hij _ hj => s2 i j (by omega) hij (by omega))
      have inR : ∀ z ∈ R.toList, (∃ i, k ≤ i ∧ i < n1 ∧ key z = K (arrOf st) i) ∨ ∃ j, n1 ≤ j ∧ j < n1 + nb ∧ key z = K (arrOf st) j := fun z hz' => by
        have := fp.mem_iff.mp hz'
        rw [List.mem_append] at this
        rcases this with this | this
        · obtain ⟨i, a1, a2, _, a4⟩ := mem_part this
          exact .inl ⟨i, a1, by omega, a4⟩
        · obtain ⟨i, a1, a2, _, a4⟩ := mem_part this
          exact .inr ⟨i, a1, a2, a4⟩
      have inP : ∀ z ∈ (arrOf st).toList.take k, ∃ i, i < k ∧ key z = K (arrOf st) i := fun z hz' => by
        obtain ⟨i, _, a2, _, a4⟩ := mem_part (lo := 0) (m := k) (by rw [List.drop_zero]; exact hz')
        exact ⟨i, by omega, a4⟩
      have inS : ∀ z ∈ (arrOf st).toList.drop (n1 + nb), ∃ i, n1 + nb ≤ i ∧ i < n1 + n2 ∧ key z = K (arrOf st) i := fun z hz' => by
        rw [eS] at hz'
        obtain ⟨i, a1, _, a3, a4⟩ := mem_part hz'
        exact ⟨i, a1, by omega, a4⟩
      have RS : ∀ x ∈ R.toList.map key, ∀ y ∈ ((arrOf st).toList.drop (n1 + nb)).map key, x ≤ y := by
        intro x hx y hy
        obtain ⟨p, hp', rfl⟩ := List.mem_map.mp hx
        obtain ⟨q, hq', rfl⟩ := List.mem_map.mp hy
        obtain ⟨j, j1, j2, ej⟩ := inS q hq'
        rw [ej]
        have hh : K (arrOf st) (n1 - 1) ≤ K (arrOf st) (n1 + nb) := by
          exact Int.not_lt.mp (of_decide_eq_false (high2 nb (Nat.le_refl _) (by omega)))
        rcases inR p hp' with ⟨i, i1, i2, ei⟩ | ⟨i, i1, i2, ei⟩
        · rw [ei]
          exact Int.le_trans (s1 i (n1 - 1) (by omega) (by omega)) (Int.le_trans hh (s2 _ _ (by omega) j1 j2))
        · rw [ei]
          exact s2 _ _ i1 (by omega) j2
      refine ⟨pP, ⟨f.2, pS, RS⟩, fun x hx y hy => ?_⟩
      obtain ⟨p, hp', rfl⟩ := List.mem_map.mp hx
      obtain ⟨i, i1, ei⟩ := inP p hp'
      rw [ei]
      rw [List.mem_append] at hy
      rcases hy with hy | hy
      · obtain ⟨q, hq', rfl⟩ := List.mem_map.mp hy
        rcases inR q hq' with ⟨j, j1, j2, ej⟩ | ⟨j, j1, j2, ej⟩
        · rw [ej]; exact s1 _ _ (by omega) j2
        · rw [ej]; exact Int.le_trans (lowK i i1) (s2 _ _ (Nat.le_refl _) j1 (by omega))
      · obtain ⟨q, hq', rfl⟩ := List.mem_map.mp hy
        obtain ⟨j, j1, j2, ej⟩ := inS q hq'
        rw [ej]
        exact Int.le_trans (lowK i i1) (s2 _ _ (Nat.le_refl _) (by omega) j2)
  by_cases hle : n1 - k ≤ nb
  · rw [if_pos hle]
    refine wpS_bind (wpS_mergeLo (st := setPending st #[(0, n1 + n2, pw)]) hk hX hY sx sy (by omega) (by omega) fst' top' fun R g f => ?_)
    refine wpS_bind (wpS_modify ?_)
    refine wpS_bind (wpS_get ?_)
    refine wpS_pure ?_
    have ef : (failedOf (setArr (setG (setPending st #[(0, n1 + n2, pw)]) g) (R.toList.zipIdx.foldl (fun a x => a.setIfInBounds (0 + k + x.2) x.1) (arrOf st)))).isNone = true := by
      show (failedOf st).isNone = true
      rw [hf]; rfl
    show Q (failedOf (setArr (setG (setPending st #[(0, n1 + n2, pw)]) g) (R.toList.zipIdx.foldl (fun a x => a.setIfInBounds (0 + k + x.2) x.1) (arrOf st)))).isNone _
    rw [ef]
    exact done R g f
  · rw [if_neg hle]
    refine wpS_bind (wpS_mergeHi (st := setPending st #[(0, n1 + n2, pw)]) hk hX hY sx sy (by omega) (by omega) fst' top' fun R g f => ?_)
    refine wpS_bind (wpS_modify ?_)
    refine wpS_bind (wpS_get ?_)
    refine wpS_pure ?_
    have ef : (failedOf (setArr (setG (setPending st #[(0, n1 + n2, pw)]) g) (R.toList.zipIdx.foldl (fun a x => a.setIfInBounds (0 + k + x.2) x.1) (arrOf st)))).isNone = true := by
      show (failedOf st).isNone = true
      rw [hf]; rfl
    show Q (failedOf (setArr (setG (setPending st #[(0, n1 + n2, pw)]) g) (R.toList.zipIdx.foldl (fun a x => a.setIfInBounds (0 + k + x.2) x.1) (arrOf st)))).isNone _
    rw [ef]
    exact done R g f
end
structure SB (a₀ : Array Keyed) (P : Array (Nat × Nat × Nat)) (st : SortSt) : Prop where
  perm : (arrOf st).Perm a₀
  kind : kindOf st = oneType'
  failed : failedOf st = none
  pend : pendingOf st = P
theorem SB.size {a₀ : Array Keyed} {P : Array (Nat × Nat × Nat)} {st : SortSt} (h : SB a₀ P st) : (arrOf st).size = a₀.size := h.perm.size_eq
theorem SB.keys {a₀ : Array Keyed} {P : Array (Nat × Nat × Nat)} {st : SortSt} (h : SB a₀ P st) (h0 : IntKeys a₀) : IntKeys (arrOf st) := fun p hp => h0 p ((Array.perm_iff_toList_perm.mp h.perm).mem_iff.mp hp)
theorem SB.put {a₀ : Array Keyed} {P : Array (Nat × Nat × Nat)} {st : SortSt} (h : SB a₀ P st) {xs : Array Keyed} (hp : xs.Perm (arrOf st)) : SB a₀ P (setArr st xs) := ⟨hp.trans h.perm, h.kind, h.failed, h.pend⟩
noncomputable def SF (xs : Array Keyed) (lo k : Nat) : Prop := ∀ i j, lo ≤ i → i ≤ j → j < lo + k → K xs i ≤ K xs j
section
variable {prog : Program} {w : World} {A : Around} {E : Value → Shared → Prop} {s : Shared} {a₀ : Array Keyed} {P : Array (Nat × Nat × Nat)}
theorem wpS_ltB {st : SortSt} {i j : Nat} {Q : Option Bool → SortSt → Prop} (hB : SB a₀ P st) (h0 : IntKeys a₀) (hi : i < a₀.size) (hj : j < a₀.size)
    (h : Q (some (decide (K (arrOf st) i < K (arrOf st) j))) st) : wpS (model prog w) A E s (ltAt' i j) Q st := by
  have hz := hB.size
  obtain ⟨t, p, e1⟩ := IntKeys.at (hB.keys h0) (show i < (arrOf st).size by omega)
  obtain ⟨u, q, e2⟩ := IntKeys.at (hB.keys h0) (show j < (arrOf st).size by omega)
  exact wpS_ltAt hB.kind e1 e2 h
theorem wpS_binS {st : SortSt} {lo n ok : Nat} {Q : Bool → SortSt → Prop} (h0 : IntKeys a₀) (hn : lo + n ≤ a₀.size) (hok : ok ≤ n) (hB : SB a₀ P st) (hs : SF (arrOf st) lo ok)
    (h : ∀ st', SB a₀ P st' → SF (arrOf st') lo n → (∀ i, i < lo → K (arrOf st') i = K (arrOf st) i) → Q true st') : wpS (model prog w) A E s (binarySort' lo n ok) Q st := by
  rw [binarySort'_eq]
  refine wpS_bind (wpS_mono (wpS_forRange (I := fun k c st' => c = (none, ()) ∧ SB a₀ P st' ∧ SF (arrOf st') lo (min k n) ∧ ∀ i, i < lo → K (arrOf st') i = K (arrOf st) i)
    (Q := fun c st' => c = (none, ()) ∧ SB a₀ P st' ∧ SF (arrOf st') lo n ∧ ∀ i, i < lo → K (arrOf st') i = K (arrOf st) i) ?step ?fin ?init) ?post)
  case post =>
    rintro c st' ⟨rfl, b1, b2, b3⟩
    exact wpS_pure (h st' b1 b2 b3)
  case init =>
    refine ⟨rfl, hB, fun i j hi hij hj => ?_, fun _ _ => rfl⟩
    by_cases h1 : ok = 0
    · have : i = j := by omega
      subst this; exact Int.le_refl _
    · exact hs i j hi hij (by omega)
  case fin =>
    rintro c st' ⟨b0, b1, b2, b3⟩
    refine ⟨b0, b1, ?_, b3⟩
    rwa [show min (max (max ok 1) n) n = n by omega] at b2
  case step =>
    rintro k c st' hak hkn ⟨rfl, b1, b2, b3⟩
    rw [show min k n = k by omega] at b2
    refine wpS_bind (wpS_mono (wpS_forRange (I := fun x c st'' => st'' = st' ∧ ∃ l r, c = (none, l, r) ∧ l ≤ r ∧ r ≤ k ∧ r - l ≤ k - x ∧
        (∀ i, i < l → K (arrOf st') (lo + i) ≤ K (arrOf st') (lo + k)) ∧ (∀ i, r ≤ i → i < k → K (arrOf st') (lo + k) < K (arrOf st') (lo + i)))
      (Q := fun c st'' => st'' = st' ∧ ∃ l r, c = (none, l, r) ∧ l ≤ k ∧
        (∀ i, i < l → K (arrOf st') (lo + i) ≤ K (arrOf st') (lo + k)) ∧ (∀ i, l ≤ i → i < k → K (arrOf st') (lo + k) < K (arrOf st') (lo + i))) ?istep ?ifin ?iinit) ?ipost)
    case iinit => exact ⟨rfl, 0, k, rfl, by omega, by omega, by omega, fun i hi => by omega, fun i h1 h2 => by omega⟩
    case ifin =>
      rintro c st'' ⟨rfl, l, r, rfl, h1, h2, h3, h4, h5⟩
      have : l = r := by omega
      subst this
      exact ⟨rfl, l, l, rfl, h2, h4, h5⟩
    case istep =>
      rintro x c st'' _ hxk ⟨rfl, l, r, rfl, h1, h2, h3, h4, h5⟩
      dsimp only
      by_cases hge : l ≥ r
      · rw [if_pos hge]
        have : l = r := by omega
        subst this
        exact wpS_pure ⟨rfl, l, l, rfl, h2, h4, h5⟩
      · rw [if_neg hge]
        refine wpS_bind (wpS_ltB b1 h0 (by omega) (by omega) ?_)
        by_cases hl : K (arrOf st'') (lo + k) < K (arrOf st'') (lo + (l + r) / 2)
        · simp only [hl, decide_true, if_true]
          refine wpS_pure ⟨rfl, l, (l + r) / 2, rfl, by omega, by omega, by omega, h4, fun i h6 h7 => ?_⟩
          exact Int.lt_of_lt_of_le hl (b2 _ _ (by omega) (by omega) (by omega))
        · simp only [hl, decide_false, Bool.false_eq_true, if_false]
          refine wpS_pure ⟨rfl, (l + r) / 2 + 1, r, rfl, by omega, by omega, by omega, fun i h6 => ?_, h5⟩
          exact Int.le_trans (b2 (lo + i) (lo + (l + r) / 2) (by omega) (by omega) (by omega)) (Int.not_lt.mp hl)
    case ipost =>
      rintro c st'' ⟨rfl, l, r, rfl, hlk, h4, h5⟩
      show wpS _ _ _ _ (do moveDown' (lo + k) (lo + l); pure (ForInStep.yield (none, ()))) _ _
      rw [moveDown'_eq]
      have hks : lo + k < (arrOf st'').size := by rw [b1.size]; omega
      have kb : ∀ i, K (bubble (arrOf st'') (lo + k) (lo + k - (lo + l))) i = if i = lo + l then K (arrOf st'') (lo + k) else if lo + l < i ∧ i ≤ lo + k then K (arrOf st'') (i - 1) else K (arrOf st'') i := fun i => by
        rw [K_bubble hks (by omega), show lo + k - (lo + k - (lo + l)) = lo + l by omega]
      refine wpS_bind (wpS_modify (wpS_pure ⟨rfl, b1.put (bubble_perm _ _ _), ?_, fun i hi => ?_⟩))
      · rw [show min (k + 1) n = k + 1 by omega]
        intro i j hi hij hj
        show K (bubble (arrOf st'') (lo + k) (lo + k - (lo + l))) i ≤ K (bubble (arrOf st'') (lo + k) (lo + k - (lo + l))) j
        have h4' : ∀ i, lo ≤ i → i < lo + l → K (arrOf st'') i ≤ K (arrOf st'') (lo + k) := fun i z1 z2 => by
          have := h4 (i - lo) (by omega)
          rwa [show lo + (i - lo) = i by omega] at this
        have h5' : ∀ i, lo + l ≤ i → i < lo + k → K (arrOf st'') (lo + k) < K (arrOf st'') i := fun i z1 z2 => by
          have := h5 (i - lo) (by omega) (by omega)
          rwa [show lo + (i - lo) = i by omega] at this
        rw [kb, kb]
        repeat' split
        all_goals first
          | (exfalso; omega)
          | exact Int.le_refl _
          | exact h4' _ (by omega) (by omega)
          | exact Int.le_of_lt (h5' _ (by omega) (by omega))
          | exact b2 _ _ (by omega) (by omega) (by omega)
      · show K (bubble (arrOf st'') (lo + k) (lo + k - (lo + l))) i = _
        rw [kb, if_neg (by omega), if_neg (by omega)]
        exact b3 i hi
end
noncomputable def ND (xs : Array Keyed) (lo k : Nat) : Prop := ∀ i j, lo ≤ i → i ≤ j → j < lo + k → K xs j ≤ K xs i
theorem SF.more {xs : Array Keyed} {lo k : Nat} (h : SF xs lo k) (hk : 1 ≤ k) (e : K xs (lo + k - 1) ≤ K xs (lo + k)) : SF xs lo (k + 1) := fun i j hi hij hj => by
  by_cases z : j < lo + k
  · exact h i j hi hij z
  · have : j = lo + k := by omega
    subst this
    by_cases z2 : i = lo + k
    · subst z2; exact Int.le_refl _
    · exact Int.le_trans (h i (lo + k - 1) hi (by omega) (by omega)) e
theorem ND.more {xs : Array Keyed} {lo k : Nat} (h : ND xs lo k) (hk : 1 ≤ k) (e : K xs (lo + k) ≤ K xs (lo + k - 1)) : ND xs lo (k + 1) := fun i j hi hij hj => by
  by_cases z : j < lo + k
  · exact h i j hi hij z
  · have : j = lo + k := by omega
    subst this
    by_cases z2 : i = lo + k
    · subst z2; exact Int.le_refl _
    · exact Int.le_trans e (h i (lo + k - 1) hi (by omega) (by omega))
section
variable {prog : Program} {w : World} {A : Around} {E : Value → Shared → Prop} {s : Shared} {a₀ : Array Keyed} {P : Array (Nat × Nat × Nat)}
theorem wpS_cntR {st : SortSt} {lo nrem : Nat} {Q : Option Nat → SortSt → Prop} (h0 : IntKeys a₀) (hn : lo + nrem ≤ a₀.size) (h1 : 1 ≤ nrem) (hB : SB a₀ P st)
    (h : ∀ m st', SB a₀ P st' → 1 ≤ m → m ≤ nrem → SF (arrOf st') lo m → (∀ i, i < lo → K (arrOf st') i = K (arrOf st) i) → Q (some m) st') : wpS (model prog w) A E s (countRun' lo nrem) Q st := by
  have one : SF (arrOf st) lo 1 := fun i j hi hij hj => by
    have : i = j := by omega
    subst this; exact Int.le_refl _
  rw [countRun'_eq]
  dsimp only
  refine wpS_bind (wpS_mono (wpS_forRange (I := fun x c st' => st = st' ∧ c = (none, x) ∧ SF (arrOf st) lo x)
    (Q := fun c st' => st = st' ∧ ∃ mm, c = (none, mm) ∧ 1 ≤ mm ∧ mm ≤ nrem ∧ SF (arrOf st) lo mm ∧ (mm = nrem ∨ K (arrOf st) (lo + mm) < K (arrOf st) (lo + mm - 1))) ?_ ?_ ⟨rfl, rfl, one⟩) ?_)
  · rintro x c st9 hax hxn ⟨rfl, rfl, hs⟩
    dsimp only
    refine wpS_bind (wpS_ltB hB h0 (by omega) (by omega) ?_)
    by_cases hl : K (arrOf st) (lo + x) < K (arrOf st) (lo + x - 1)
    · simp only [hl, decide_true, if_true]
      exact wpS_pure ⟨rfl, x, rfl, hax, by omega, hs, .inr hl⟩
    · simp only [hl, decide_false, Bool.false_eq_true, if_false]
      exact wpS_pure ⟨rfl, rfl, SF.more hs (by omega) (Int.not_lt.mp hl)⟩
  · rintro c st9 ⟨rfl, rfl, hs⟩
    rw [show max 1 nrem = nrem by omega] at hs ⊢
    exact ⟨rfl, nrem, rfl, by omega, Nat.le_refl _, hs, .inl rfl⟩
  rintro c st7 ⟨rfl, n, rfl, n1, n2, sn, hor⟩
  dsimp only
  by_cases hnn : n = nrem
  · rw [if_pos (by simpa using hnn)]
    exact wpS_pure (h n _ hB n1 n2 sn fun _ _ => rfl)
  rw [if_neg (by simpa using hnn)]
  have hlt : K (arrOf st) (lo + n) < K (arrOf st) (lo + n - 1) := hor.resolve_left hnn
  by_cases hgt : n > 1
  · rw [if_pos hgt]
    refine wpS_bind (wpS_ltB hB h0 (by omega) (by omega) ?_)
    by_cases hr : K (arrOf st) lo < K (arrOf st) (lo + n - 1)
    · simp only [hr, decide_true, if_true]
      exact wpS_pure (h n _ hB n1 n2 sn fun _ _ => rfl)
    · simp only [hr, decide_false, Bool.false_eq_true, if_false]
      have hsz : lo + n ≤ (arrOf st).size := by rw [hB.size]; omega
      have hall : ∀ k, lo ≤ k → k < lo + n → K (arrOf st) k = K (arrOf st) (lo + n - 1) := fun k k1 k2 => by
        have a1 := sn lo k (Nat.le_refl _) k1 k2
        have a2 := sn k (lo + n - 1) k1 (by omega) (by omega)
        omega
      have ke := K_mirror_equal (i := lo) hsz hall
      refine wpS_bind (wpS_reverse ?_)
      have d1 : SB a₀ P (setArr st (mirror (arrOf st) lo (lo + n) ((lo + n - lo) / 2))) := hB.put (mirror_perm _ _ _ _)
      have d2 : ND (arrOf (setArr st (mirror (arrOf st) lo (lo + n) ((lo + n - lo) / 2)))) lo (n + 1) := fun i j hi hij hj => by
        show K (mirror (arrOf st) _ _ _) j ≤ K (mirror (arrOf st) _ _ _) i
        rw [ke, ke]
        by_cases hjn : j < lo + n
        · rw [hall i hi (by omega), hall j (by omega) hjn]; exact Int.le_refl _
        · have : j = lo + n := by omega
          subst this
          by_cases z2 : i = lo + n
          · subst z2; exact Int.le_refl _
          · rw [hall i hi (by omega)]; exact Int.le_of_lt hlt
      have d3 : ∀ i, i < lo → K (arrOf (setArr st (mirror (arrOf st) lo (lo + n) ((lo + n - lo) / 2)))) i = K (arrOf st) i := fun i hi => ke i
      generalize setArr st (mirror (arrOf st) lo (lo + n) ((lo + n - lo) / 2)) = st3 at d1 d2 d3 ⊢
      refine wpS_bind (wpS_lift (wpAny_rule ⟨rfl, ?_⟩))
      refine wpS_bind (wpS_mono (wpS_forRange (I := fun x c st' => ∃ neq, c = (none, x, neq) ∧ SB a₀ P st' ∧ ND (arrOf st') lo x ∧ neq + 1 ≤ x ∧ (∀ i, lo + x - (neq + 1) ≤ i → i < lo + x → K (arrOf st') i = K (arrOf st') (lo + x - 1)) ∧ ∀ i, i < lo → K (arrOf st') i = K (arrOf st) i)
        (Q := fun c st' => ∃ m neq, c = (none, m, neq) ∧ n + 1 ≤ m ∧ m ≤ nrem ∧ SB a₀ P st' ∧ ND (arrOf st') lo m ∧ neq + 1 ≤ m ∧ (∀ i, lo + m - (neq + 1) ≤ i → i < lo + m → K (arrOf st') i = K (arrOf st') (lo + m - 1)) ∧ ∀ i, i < lo → K (arrOf st') i = K (arrOf st) i) ?_ ?_ ⟨0, rfl, d1, d2, by omega, (fun i h1 h2 => by congr 1; omega), d3⟩) ?_)
      · rintro x c st8 hax hxn ⟨neq, rfl, c1, c2, c3, c4, c5⟩
        dsimp only
        have hsz : lo + x ≤ (arrOf st8).size := by rw [c1.size]; omega
        refine wpS_bind (wpS_ltB c1 h0 (by omega) (by omega) ?_)
        by_cases hl : K (arrOf st8) (lo + x) < K (arrOf st8) (lo + x - 1)
        · simp only [hl, decide_true, if_true]
          by_cases hq : neq > 0
          · rw [if_pos hq]
            have ke := K_mirror_equal (i := lo + x - (neq + 1)) hsz c4
            refine wpS_bind (wpS_reverse (wpS_pure ⟨0, rfl, c1.put (mirror_perm _ _ _ _), ?_, by omega, (fun i h1 h2 => by congr 1; omega), fun i hi => ?_⟩))
            · intro i j hi hij hj
              show K (mirror (arrOf st8) _ _ _) j ≤ K (mirror (arrOf st8) _ _ _) i
              rw [ke, ke]
              exact ND.more c2 (by omega) (Int.le_of_lt hl) i j hi hij hj
            · show K (mirror (arrOf st8) _ _ _) i = _
              rw [ke]
              exact c5 i hi
          · rw [if_neg hq]
            exact wpS_pure ⟨0, rfl, c1, ND.more c2 (by omega) (Int.le_of_lt hl), by omega, (fun i h1 h2 => by congr 1; omega), c5⟩
        · simp only [hl, decide_false, Bool.false_eq_true, if_false]
          refine wpS_bind (wpS_ltB c1 h0 (by omega) (by omega) ?_)
          by_cases hg : K (arrOf st8) (lo + x - 1) < K (arrOf st8) (lo + x)
          · simp only [hg, decide_true, if_true]
            exact wpS_pure ⟨x, neq, rfl, hax, by omega, c1, c2, c3, c4, c5⟩
          · simp only [hg, decide_false, Bool.false_eq_true, if_false]
            have he : K (arrOf st8) (lo + x) = K (arrOf st8) (lo + x - 1) := by omega
            refine wpS_pure ⟨neq + 1, rfl, c1, ND.more c2 (by omega) (Int.le_of_eq he), by omega, (fun i h1 h2 => ?_), c5⟩
            rw [show lo + (x + 1) - 1 = lo + x by omega]
            by_cases hix : i = lo + x
            · rw [hix]
            · rw [he]; exact c4 i (by omega) (by omega)
      · rintro c st8 ⟨neq, rfl, c1, c2, c3, c4, c5⟩
        rw [show max (n + 1) nrem = nrem by omega] at c2 c3 c4 ⊢
        exact ⟨nrem, neq, rfl, by omega, Nat.le_refl _, c1, c2, c3, c4, c5⟩
      rintro c st4 ⟨m, neq, rfl, hm1, hm2, c1, c2, c3, c4, c5⟩
      dsimp only
      by_cases hq : neq > 0
      · rw [if_pos hq]
        have hsz4 : lo + m ≤ (arrOf st4).size := by rw [c1.size]; omega
        have ke := K_mirror_equal (i := lo + m - (neq + 1)) hsz4 c4
        refine wpS_bind (wpS_reverse ?_)
        have d1 : SB a₀ P (setArr st4 (mirror (arrOf st4) (lo + m - (neq + 1)) (lo + m) ((lo + m - (lo + m - (neq + 1))) / 2))) := c1.put (mirror_perm _ _ _ _)
        have d2 : ND (arrOf (setArr st4 (mirror (arrOf st4) (lo + m - (neq + 1)) (lo + m) ((lo + m - (lo + m - (neq + 1))) / 2)))) lo m := fun i j hi hij hj => by
          show K (mirror (arrOf st4) _ _ _) j ≤ K (mirror (arrOf st4) _ _ _) i
          rw [ke, ke]
          exact c2 i j hi hij hj
        have d3 : ∀ i, i < lo → K (arrOf (setArr st4 (mirror (arrOf st4) (lo + m - (neq + 1)) (lo + m) ((lo + m - (lo + m - (neq + 1))) / 2)))) i = K (arrOf st) i := fun i hi => by
          show K (mirror (arrOf st4) _ _ _) i = _
          rw [ke]
          exact c5 i hi
        generalize setArr st4 (mirror (arrOf st4) (lo + m - (neq + 1)) (lo + m) ((lo + m - (lo + m - (neq + 1))) / 2)) = st6 at d1 d2 d3 ⊢
        have hsz : lo + m ≤ (arrOf st6).size := by rw [d1.size]; omega
        refine wpS_bind (wpS_reverse ?_)
        have q1 : SB a₀ P (setArr st6 (mirror (arrOf st6) lo (lo + m) ((lo + m - lo) / 2))) := d1.put (mirror_perm _ _ _ _)
        have q2 : SF (arrOf (setArr st6 (mirror (arrOf st6) lo (lo + m) ((lo + m - lo) / 2)))) lo m := fun i j hi hij hj => by
          show K (mirror (arrOf st6) lo (lo + m) ((lo + m - lo) / 2)) i ≤ K (mirror (arrOf st6) lo (lo + m) ((lo + m - lo) / 2)) j
          rw [K_mirror hsz, K_mirror hsz, if_pos (by omega), if_pos (by omega)]
          exact d2 _ _ (by omega) (by omega) (by omega)
        have q3 : ∀ i, i < lo → K (arrOf (setArr st6 (mirror (arrOf st6) lo (lo + m) ((lo + m - lo) / 2)))) i = K (arrOf st) i := fun i hi => by
          show K (mirror (arrOf st6) lo (lo + m) ((lo + m - lo) / 2)) i = _
          rw [K_mirror hsz, if_neg (by omega)]
          exact d3 i hi
        generalize setArr st6 (mirror (arrOf st6) lo (lo + m) ((lo + m - lo) / 2)) = st5 at q1 q2 q3 ⊢
        refine wpS_bind (wpS_mono (wpS_forRange (I := fun x c st' => st5 = st' ∧ c = (none, x) ∧ SF (arrOf st5) lo x)
          (Q := fun c st' => st5 = st' ∧ ∃ mm, c = (none, mm) ∧ m ≤ mm ∧ mm ≤ nrem ∧ SF (arrOf st5) lo mm ∧ (mm = nrem ∨ K (arrOf st5) (lo + mm) < K (arrOf st5) (lo + mm - 1))) ?_ ?_ ⟨rfl, rfl, q2⟩) ?_)
        · rintro x c st8 hax hxn ⟨rfl, rfl, hs⟩
          dsimp only
          refine wpS_bind (wpS_ltB q1 h0 (by omega) (by omega) ?_)
          by_cases hl : K (arrOf st5) (lo + x) < K (arrOf st5) (lo + x - 1)
          · simp only [hl, decide_true, if_true]
            exact wpS_pure ⟨rfl, x, rfl, hax, by omega, hs, .inr hl⟩
          · simp only [hl, decide_false, Bool.false_eq_true, if_false]
            exact wpS_pure ⟨rfl, rfl, SF.more hs (by omega) (Int.not_lt.mp hl)⟩
        · rintro c st9 ⟨rfl, rfl, hs⟩
          rw [show max m nrem = nrem by omega] at hs ⊢
          exact ⟨rfl, nrem, rfl, by omega, Nat.le_refl _, hs, .inl rfl⟩
        rintro c st9 ⟨rfl, m', rfl, g1, g2, g3, _⟩
        exact wpS_pure (h m' _ q1 (by omega) g2 g3 q3)
      · rw [if_neg hq]
        have hsz : lo + m ≤ (arrOf st4).size := by rw [c1.size]; omega
        refine wpS_bind (wpS_reverse ?_)
        have q1 : SB a₀ P (setArr st4 (mirror (arrOf st4) lo (lo + m) ((lo + m - lo) / 2))) := c1.put (mirror_perm _ _ _ _)
        have q2 : SF (arrOf (setArr st4 (mirror (arrOf st4) lo (lo + m) ((lo + m - lo) / 2)))) lo m := fun i j hi hij hj => by
          show K (mirror (arrOf st4) lo (lo + m) ((lo + m - lo) / 2)) i ≤ K (mirror (arrOf st4) lo (lo + m) ((lo + m - lo) / 2)) j
          rw [K_mirror hsz, K_mirror hsz, if_pos (by omega), if_pos (by omega)]
          exact c2 _ _ (by omega) (by omega) (by omega)
        have q3 : ∀ i, i < lo → K (arrOf (setArr st4 (mirror (arrOf st4) lo (lo + m) ((lo + m - lo) / 2)))) i = K (arrOf st) i := fun i hi => by
          show K (mirror (arrOf st4) lo (lo + m) ((lo + m - lo) / 2)) i = _
          rw [K_mirror hsz, if_neg (by omega)]
          exact c5 i hi
        generalize setArr st4 (mirror (arrOf st4) lo (lo + m) ((lo + m - lo) / 2)) = st5 at q1 q2 q3 ⊢
        refine wpS_bind (wpS_mono (wpS_forRange (I := fun x c st' => st5 = st' ∧ c = (none, x) ∧ SF (arrOf st5) lo x)
          (Q := fun c st' => st5 = st' ∧ ∃ mm, c = (none, mm) ∧ m ≤ mm ∧ mm ≤ nrem ∧ SF (arrOf st5) lo mm ∧ (mm = nrem ∨ K (arrOf st5) (lo + mm) < K (arrOf st5) (lo + mm - 1))) ?_ ?_ ⟨rfl, rfl, q2⟩) ?_)
        · rintro x c st8 hax hxn ⟨rfl, rfl, hs⟩
          dsimp only
          refine wpS_bind (wpS_ltB q1 h0 (by omega) (by omega) ?_)
          by_cases hl : K (arrOf st5) (lo + x) < K (arrOf st5) (lo + x - 1)
          · simp only [hl, decide_true, if_true]
            exact wpS_pure ⟨rfl, x, rfl, hax, by omega, hs, .inr hl⟩
          · simp only [hl, decide_false, Bool.false_eq_true, if_false]
            exact wpS_pure ⟨rfl, rfl, SF.more hs (by omega) (Int.not_lt.mp hl)⟩
        · rintro c st9 ⟨rfl, rfl, hs⟩
          rw [show max m nrem = nrem by omega] at hs ⊢
          exact ⟨rfl, nrem, rfl, by omega, Nat.le_refl _, hs, .inl rfl⟩
        rintro c st9 ⟨rfl, m', rfl, g1, g2, g3, _⟩
        exact wpS_pure (h m' _ q1 (by omega) g2 g3 q3)
  · rw [if_neg hgt]
    have e1 : n = 1 := by omega
    subst e1
    have nd1 : ND (arrOf st) lo 1 := fun i j hi hij hj => by
      have e9 : i = j := by omega
      subst e9
      exact Int.le_refl _
    have nd : ND (arrOf st) lo (1 + 1) := ND.more nd1 (by omega) (Int.le_of_lt hlt)
    refine wpS_bind (wpS_lift (wpAny_rule ⟨rfl, ?_⟩))
    refine wpS_bind (wpS_mono (wpS_forRange (I := fun x c st' => ∃ neq, c = (none, x, neq) ∧ SB a₀ P st' ∧ ND (arrOf st') lo x ∧ neq + 1 ≤ x ∧ (∀ i, lo + x - (neq + 1) ≤ i → i < lo + x → K (arrOf st') i = K (arrOf st') (lo + x - 1)) ∧ ∀ i, i < lo → K (arrOf st') i = K (arrOf st) i)
      (Q := fun c st' => ∃ m neq, c = (none, m, neq) ∧ 1 + 1 ≤ m ∧ m ≤ nrem ∧ SB a₀ P st' ∧ ND (arrOf st') lo m ∧ neq + 1 ≤ m ∧ (∀ i, lo + m - (neq + 1) ≤ i → i < lo + m → K (arrOf st') i = K (arrOf st') (lo + m - 1)) ∧ ∀ i, i < lo → K (arrOf st') i = K (arrOf st) i) ?_ ?_ ⟨0, rfl, hB, nd, by omega, (fun i h1 h2 => by congr 1; omega), (fun _ _ => rfl)⟩) ?_)
    · rintro x c st8 hax hxn ⟨neq, rfl, c1, c2, c3, c4, c5⟩
      dsimp only
      have hsz : lo + x ≤ (arrOf st8).size := by rw [c1.size]; omega
      refine wpS_bind (wpS_ltB c1 h0 (by omega) (by omega) ?_)
      by_cases hl : K (arrOf st8) (lo + x) < K (arrOf st8) (lo + x - 1)
      · simp only [hl, decide_true, if_true]
        by_cases hq : neq > 0
        · rw [if_pos hq]
          have ke := K_mirror_equal (i := lo + x - (neq + 1)) hsz c4
          refine wpS_bind (wpS_reverse (wpS_pure ⟨0, rfl, c1.put (mirror_perm _ _ _ _), ?_, by omega, (fun i h1 h2 => by congr 1; omega), fun i hi => ?_⟩))
          · intro i j hi hij hj
            show K (mirror (arrOf st8) _ _ _) j ≤ K (mirror (arrOf st8) _ _ _) i
            rw [ke, ke]
            exact ND.more c2 (by omega) (Int.le_of_lt hl) i j hi hij hj
          · show K (mirror (arrOf st8) _ _ _) i = _
            rw [ke]
            exact c5 i hi
        · rw [if_neg hq]
          exact wpS_pure ⟨0, rfl, c1, ND.more c2 (by omega) (Int.le_of_lt hl), by omega, (fun i h1 h2 => by congr 1; omega), c5⟩
      · simp only [hl, decide_false, Bool.false_eq_true, if_false]
        refine wpS_bind (wpS_ltB c1 h0 (by omega) (by omega) ?_)
        by_cases hg : K (arrOf st8) (lo + x - 1) < K (arrOf st8) (lo + x)
        · simp only [hg, decide_true, if_true]
          exact wpS_pure ⟨x, neq, rfl, hax, by omega, c1, c2, c3, c4, c5⟩
        · simp only [hg, decide_false, Bool.false_eq_true, if_false]
          have he : K (arrOf st8) (lo + x) = K (arrOf st8) (lo + x - 1) := by omega
          refine wpS_pure ⟨neq + 1, rfl, c1, ND.more c2 (by omega) (Int.le_of_eq he), by omega, (fun i h1 h2 => ?_), c5⟩
          rw [show lo + (x + 1) - 1 = lo + x by omega]
          by_cases hix : i = lo + x
          · rw [hix]
          · rw [he]; exact c4 i (by omega) (by omega)
    · rintro c st8 ⟨neq, rfl, c1, c2, c3, c4, c5⟩
      rw [show max (1 + 1) nrem = nrem by omega] at c2 c3 c4 ⊢
      exact ⟨nrem, neq, rfl, by omega, Nat.le_refl _, c1, c2, c3, c4, c5⟩
    rintro c st4 ⟨m, neq, rfl, hm1, hm2, c1, c2, c3, c4, c5⟩
    dsimp only
    by_cases hq : neq > 0
    · rw [if_pos hq]
      have hsz4 : lo + m ≤ (arrOf st4).size := by rw [c1.size]; omega
      have ke := K_mirror_equal (i := lo + m - (neq + 1)) hsz4 c4
      refine wpS_bind (wpS_reverse ?_)
      have d1 : SB a₀ P (setArr st4 (mirror (arrOf st4) (lo + m - (neq + 1)) (lo + m) ((lo + m - (lo + m - (neq + 1))) / 2))) := c1.put (mirror_perm _ _ _ _)
      have d2 : ND (arrOf (setArr st4 (mirror (arrOf st4) (lo + m - (neq + 1)) (lo + m) ((lo + m - (lo + m - (neq + 1))) / 2)))) lo m := fun i j hi hij hj => by
        show K (mirror (arrOf st4) _ _ _) j ≤ K (mirror (arrOf st4) _ _ _) i
        rw [ke, ke]
        exact c2 i j hi hij hj
      have d3 : ∀ i, i < lo → K (arrOf (setArr st4 (mirror (arrOf st4) (lo + m - (neq + 1)) (lo + m) ((lo + m - (lo + m - (neq + 1))) / 2)))) i = K (arrOf st) i := fun i hi => by
        show K (mirror (arrOf st4) _ _ _) i = _
        rw [ke]
        exact c5 i hi
      generalize setArr st4 (mirror (arrOf st4) (lo + m - (neq + 1)) (lo + m) ((lo + m - (lo + m - (neq + 1))) / 2)) = st6 at d1 d2 d3 ⊢
      have hsz : lo + m ≤ (arrOf st6).size := by rw [d1.size]; omega
      refine wpS_bind (wpS_reverse ?_)
      have q1 : SB a₀ P (setArr st6 (mirror (arrOf st6) lo (lo + m) ((lo + m - lo) / 2))) := d1.put (mirror_perm _ _ _ _)
      have q2 : SF (arrOf (setArr st6 (mirror (arrOf st6) lo (lo + m) ((lo + m - lo) / 2)))) lo m := fun i j hi hij hj => by
        show K (mirror (arrOf st6) lo (lo + m) ((lo + m - lo) / 2)) i ≤ K (mirror (arrOf st6) lo (lo + m) ((lo + m - lo) / 2)) j
        rw [K_mirror hsz, K_mirror hsz, if_pos (by omega), if_pos (by omega)]
        exact d2 _ _ (by omega) (by omega) (by omega)
      have q3 : ∀ i, i < lo → K (arrOf (setArr st6 (mirror (arrOf st6) lo (lo + m) ((lo + m - lo) / 2)))) i = K (arrOf st) i := fun i hi => by
        show K (mirror (arrOf st6) lo (lo + m) ((lo + m - lo) / 2)) i = _
        rw [K_mirror hsz, if_neg (by omega)]
        exact d3 i hi
      generalize setArr st6 (mirror (arrOf st6) lo (lo + m) ((lo + m - lo) / 2)) = st5 at q1 q2 q3 ⊢
      refine wpS_bind (wpS_mono (wpS_forRange (I := fun x c st' => st5 = st' ∧ c = (none, x) ∧ SF (arrOf st5) lo x)
        (Q := fun c st' => st5 = st' ∧ ∃ mm, c = (none, mm) ∧ m ≤ mm ∧ mm ≤ nrem ∧ SF (arrOf st5) lo mm ∧ (mm = nrem ∨ K (arrOf st5) (lo + mm) < K (arrOf st5) (lo + mm - 1))) ?_ ?_ ⟨rfl, rfl, q2⟩) ?_)
      · rintro x c st8 hax hxn ⟨rfl, rfl, hs⟩
        dsimp only
        refine wpS_bind (wpS_ltB q1 h0 (by omega) (by omega) ?_)
        by_cases hl : K (arrOf st5) (lo + x) < K (arrOf st5) (lo + x - 1)
        · simp only [hl, decide_true, if_true]
          exact wpS_pure ⟨rfl, x, rfl, hax, by omega, hs, .inr hl⟩
        · simp only [hl, decide_false, Bool.false_eq_true, if_false]
          exact wpS_pure ⟨rfl, rfl, SF.more hs (by omega) (Int.not_lt.mp hl)⟩
      · rintro c st9 ⟨rfl, rfl, hs⟩
        rw [show max m nrem = nrem by omega] at hs ⊢
        exact ⟨rfl, nrem, rfl, by omega, Nat.le_refl _, hs, .inl rfl⟩
      rintro c st9 ⟨rfl, m', rfl, g1, g2, g3, _⟩
      exact wpS_pure (h m' _ q1 (by omega) g2 g3 q3)
    · rw [if_neg hq]
      have hsz : lo + m ≤ (arrOf st4).size := by rw [c1.size]; omega
      refine wpS_bind (wpS_reverse ?_)
      have q1 : SB a₀ P (setArr st4 (mirror (arrOf st4) lo (lo + m) ((lo + m - lo) / 2))) := c1.put (mirror_perm _ _ _ _)
      have q2 : SF (arrOf (setArr st4 (mirror (arrOf st4) lo (lo + m) ((lo + m - lo) / 2)))) lo m := fun i j hi hij hj => by
        show K (mirror (arrOf st4) lo (lo + m) ((lo + m - lo) / 2)) i ≤ K (mirror (arrOf st4) lo (lo + m) ((lo + m - lo) / 2)) j
        rw [K_mirror hsz, K_mirror hsz, if_pos (by omega), if_pos (by omega)]
        exact c2 _ _ (by omega) (by omega) (by omega)
      have q3 : ∀ i, i < lo → K (arrOf (setArr st4 (mirror (arrOf st4) lo (lo + m) ((lo + m - lo) / 2)))) i = K (arrOf st) i := fun i hi => by
        show K (mirror (arrOf st4) lo (lo + m) ((lo + m - lo) / 2)) i = _
        rw [K_mirror hsz, if_neg (by omega)]
        exact c5 i hi
      generalize setArr st4 (mirror (arrOf st4) lo (lo + m) ((lo + m - lo) / 2)) = st5 at q1 q2 q3 ⊢
      refine wpS_bind (wpS_mono (wpS_forRange (I := fun x c st' => st5 = st' ∧ c = (none, x) ∧ SF (arrOf st5) lo x)
        (Q := fun c st' => st5 = st' ∧ ∃ mm, c = (none, mm) ∧ m ≤ mm ∧ mm ≤ nrem ∧ SF (arrOf st5) lo mm ∧ (mm = nrem ∨ K (arrOf st5) (lo + mm) < K (arrOf st5) (lo + mm - 1))) ?_ ?_ ⟨rfl, rfl, q2⟩) ?_)
      · rintro x c st8 hax hxn ⟨rfl, rfl, hs⟩
        dsimp only
        refine wpS_bind (wpS_ltB q1 h0 (by omega) (by omega) ?_)
        by_cases hl : K (arrOf st5) (lo + x) < K (arrOf st5) (lo + x - 1)
        · simp only [hl, decide_true, if_true]
          exact wpS_pure ⟨rfl, x, rfl, hax, by omega, hs, .inr hl⟩
        · simp only [hl, decide_false, Bool.false_eq_true, if_false]
          exact wpS_pure ⟨rfl, rfl, SF.more hs (by omega) (Int.not_lt.mp hl)⟩
      · rintro c st9 ⟨rfl, rfl, hs⟩
        rw [show max m nrem = nrem by omega] at hs ⊢
        exact ⟨rfl, nrem, rfl, by omega, Nat.le_refl _, hs, .inl rfl⟩
      rintro c st9 ⟨rfl, m', rfl, g1, g2, g3, _⟩
      exact wpS_pure (h m' _ q1 (by omega) g2 g3 q3)
end
section
variable {prog : Program} {w : World} {A : Around} {E : Value → Shared → Prop} {s : Shared} {a₀ : Array Keyed}
theorem SB.pending {P P' : Array (Nat × Nat × Nat)} {st : SortSt} (h : SB a₀ P st) : SB a₀ P' (setPending st P') := ⟨h.perm, h.kind, h.failed, rfl⟩
noncomputable def Two (a₀ : Array Keyed) (st : SortSt) : Prop := (SB a₀ #[(0, a₀.size, 0)] st ∧ SF (arrOf st) 0 a₀.size) ∨ ∃ n1 n2 pw, SB a₀ #[(0, n1, pw), (n1, n2, 0)] st ∧ n1 + n2 = a₀.size ∧ 1 ≤ n1 ∧ 1 ≤ n2 ∧ SF (arrOf st) 0 n1 ∧ SF (arrOf st) n1 n2
theorem wpS_runs {st : SortSt} {Q : Unit → SortSt → Prop} (h0 : IntKeys a₀) (hB : SB a₀ #[] st) (h64 : 64 ≤ a₀.size) (h128 : a₀.size < 128)
    (h : ∀ st', (arrOf st').Perm a₀ → failedOf st' = none → SortedTo (arrOf st') a₀.size → Q () st') : wpS (model prog w) A E s sortRuns' Q st := by
  rw [sortRuns'_eq]
  refine wpS_bind (wpS_get ?_)
  dsimp only
  have hmr : minRun' a₀.size a₀.size 0 = a₀.size / 2 + a₀.size % 2 := by
    obtain ⟨f, hf⟩ : ∃ f, a₀.size = f + 1 + 1 := ⟨a₀.size - 2, by omega⟩
    have : minRun' (f + 1 + 1) a₀.size 0 = a₀.size / 2 + a₀.size % 2 := by
      rw [minRun'_succ, if_neg (by omega), minRun'_succ, if_pos (by omega), Nat.max_eq_right (Nat.zero_le _)]
    rwa [← hf] at this
  simp only [hB.size, hmr]
  refine wpS_bind (wpS_mono (wpS_forRange
    (I := fun x c st' => (x = 0 ∧ c = (none, 0) ∧ SB a₀ #[] st') ∨ (x = 1 ∧ ∃ n, c = (none, n) ∧ a₀.size / 2 + a₀.size % 2 ≤ n ∧ n < a₀.size ∧ SB a₀ #[(0, n, 0)] st' ∧ SF (arrOf st') 0 n) ∨ (1 ≤ x ∧ c = (none, a₀.size) ∧ Two a₀ st'))
    (Q := fun c st' => c = (none, a₀.size) ∧ Two a₀ st') ?step ?fin (.inl ⟨rfl, rfl, hB⟩)) ?post)
  case fin =>
    rintro c st' (⟨hx, _⟩ | ⟨hx, _⟩ | ⟨_, hc, hD⟩)
    · omega
    · omega
    · exact ⟨hc, hD⟩
  case step =>
    rintro x c st' _ hx (⟨rfl, rfl, b⟩ | ⟨rfl, n, rfl, n1, n2, b, sf⟩ | ⟨hx1, rfl, hD⟩)
    · dsimp only
      rw [if_neg (by omega)]
      simp only [Nat.sub_zero, Nat.zero_add]
      refine wpS_bind (wpS_cntR h0 (by omega) (by omega) b fun m st2 b2 m1 m2 sf2 _ => ?_)
      dsimp only
      have go : ∀ (n : Nat) (st3 : SortSt), a₀.size / 2 + a₀.size % 2 ≤ n → n ≤ a₀.size → SB a₀ #[] st3 → SF (arrOf st3) 0 n →
          ((1 = 0 ∧ ((none : Option Unit), n) = (none, 0) ∧ SB a₀ #[] (setPending st3 ((pendingOf st3).push (0, n, 0)))) ∨ (True ∧ ∃ n', ((none : Option Unit), n) = (none, n') ∧ a₀.size / 2 + a₀.size % 2 ≤ n' ∧ n' < a₀.size ∧ SB a₀ #[(0, n', 0)] (setPending st3 ((pendingOf st3).push (0, n, 0))) ∧ SF (arrOf (setPending st3 ((pendingOf st3).push (0, n, 0)))) 0 n') ∨ (1 ≤ 1 ∧ ((none : Option Unit), n) = (none, a₀.size) ∧ Two a₀ (setPending st3 ((pendingOf st3).push (0, n, 0))))) := by
        intro n st3 g1 g2 g3 g4
        have ep : (pendingOf st3).push (0, n, 0) = #[(0, n, 0)] := by rw [g3.pend]; rfl
        rw [ep]
        by_cases z : n = a₀.size
        · exact .inr (.inr ⟨Nat.le_refl _, by rw [z], .inl ⟨by rw [← z]; exact g3.pending, by rw [← z]; exact g4⟩⟩)
        · exact .inr (.inl ⟨trivial, n, rfl, g1, by omega, g3.pending, g4⟩)
      by_cases hlt : m < a₀.size / 2 + a₀.size % 2
      · rw [if_pos hlt]
        refine wpS_bind (wpS_lift (wpAny_rule ⟨rfl, ?_⟩))
        refine wpS_bind (wpS_binS h0 (by omega) (by omega) b2 sf2 fun st3 b3 sf3 _ => ?_)
        simp only [Bool.not_true, Bool.false_eq_true, if_false]
        refine wpS_bind (wpS_get ?_)
        have hb : (pendingOf st3).back? = none := by rw [b3.pend]; rfl
        rw [hb]
        dsimp only
        exact wpS_bind (wpS_modify (wpS_pure (go _ st3 (by omega) (by omega) b3 sf3)))
      · rw [if_neg hlt]
        refine wpS_bind (wpS_get ?_)
        have hb : (pendingOf st2).back? = none := by rw [b2.pend]; rfl
        rw [hb]
        dsimp only
        exact wpS_bind (wpS_modify (wpS_pure (go _ st2 (by omega) m2 b2 sf2)))
    · dsimp only
      rw [if_neg (by omega)]
      refine wpS_bind (wpS_cntR h0 (by omega) (by omega) b fun m st2 b2 m1 m2 sf2 pre2 => ?_)
      dsimp only
      have keep : ∀ st3 : SortSt, (∀ i, i < n → K (arrOf st3) i = K (arrOf st') i) → SF (arrOf st3) 0 n := fun st3 hp i j hi hij hj => by
        rw [hp i (by omega), hp j (by omega)]
        exact sf i j hi hij hj
      by_cases hlt : m < a₀.size / 2 + a₀.size % 2
      · rw [if_pos hlt]
        refine wpS_bind (wpS_lift (wpAny_rule ⟨rfl, ?_⟩))
        rw [show min (a₀.size - n) (a₀.size / 2 + a₀.size % 2) = a₀.size - n by omega]
        refine wpS_bind (wpS_binS h0 (by omega) (by omega) b2 sf2 fun st3 b3 sf3 pre3 => ?_)
        simp only [Bool.not_true, Bool.false_eq_true, if_false]
        refine wpS_bind (wpS_get ?_)
        have hb : (pendingOf st3).back? = some (0, n, 0) := by rw [b3.pend]; rfl
        rw [hb]
        dsimp only
        refine wpS_bind (wpS_mono (wpS_forRange (I := fun _ c st'' => st3 = st'' ∧ c = (none, ())) (Q := fun c st'' => st3 = st'' ∧ c = (none, ())) ?_ (fun _ _ hh => hh) ⟨rfl, rfl⟩) ?_)
        · rintro y c st'' _ _ ⟨rfl, rfl⟩
          refine wpS_bind (wpS_get ?_)
          skip
          rw [b3.pend]
          exact wpS_pure ⟨rfl, rfl⟩
        · rintro c st'' ⟨rfl, rfl⟩
          dsimp only
          refine wpS_bind (wpS_modify ?_)
          refine wpS_bind (wpS_modify ?_)
          refine wpS_pure (.inr (.inr ⟨by omega, (by congr 1; omega), .inr ⟨n, a₀.size - n, power' a₀.size (2 * 0 + n) (2 * 0 + n + n + (a₀.size - n)) a₀.size, ⟨b3.perm, b3.kind, b3.failed, ?_⟩, by omega, by omega, by omega, keep st3 (fun i hi => (pre3 i hi).trans (pre2 i hi)), sf3⟩⟩))
          show ((pendingOf st3).modify ((pendingOf st3).size - 1) _).push (n, _, 0) = _
          rw [b3.pend]
          first | rfl | simp [Array.modify] | (apply Array.ext'; simp [Array.modify])
      · rw [if_neg hlt]
        have em : m = a₀.size - n := by omega
        subst em
        refine wpS_bind (wpS_get ?_)
        have hb : (pendingOf st2).back? = some (0, n, 0) := by rw [b2.pend]; rfl
        rw [hb]
        dsimp only
        refine wpS_bind (wpS_mono (wpS_forRange (I := fun _ c st'' => st2 = st'' ∧ c = (none, ())) (Q := fun c st'' => st2 = st'' ∧ c = (none, ())) ?_ (fun _ _ hh => hh) ⟨rfl, rfl⟩) ?_)
        · rintro y c st'' _ _ ⟨rfl, rfl⟩
          refine wpS_bind (wpS_get ?_)
          skip
          rw [b2.pend]
          exact wpS_pure ⟨rfl, rfl⟩
        · rintro c st'' ⟨rfl, rfl⟩
          dsimp only
          refine wpS_bind (wpS_modify ?_)
          refine wpS_bind (wpS_modify ?_)
          refine wpS_pure (.inr (.inr ⟨by omega, (by congr 1; omega), .inr ⟨n, a₀.size - n, power' a₀.size (2 * 0 + n) (2 * 0 + n + n + (a₀.size - n)) a₀.size, ⟨b2.perm, b2.kind, b2.failed, ?_⟩, by omega, by omega, by omega, keep st2 pre2, sf2⟩⟩))
          show ((pendingOf st2).modify ((pendingOf st2).size - 1) _).push (n, _, 0) = _
          rw [b2.pend]
          first | rfl | simp [Array.modify] | (apply Array.ext'; simp [Array.modify])
    · dsimp only
      rw [if_pos (Nat.le_refl _)]
      exact wpS_pure ⟨rfl, hD⟩
  case post =>
    rintro c st' ⟨rfl, hD⟩
    dsimp only
    refine wpS_bind (wpS_mono (wpS_forRange (I := fun y c st'' => c = (none, ()) ∧ ((y = 0 ∧ Two a₀ st'') ∨ ((arrOf st'').Perm a₀ ∧ failedOf st'' = none ∧ (pendingOf st'').size ≤ 1 ∧ SortedTo (arrOf st'') a₀.size)))
      (Q := fun c st'' => c = (none, ()) ∧ (arrOf st'').Perm a₀ ∧ failedOf st'' = none ∧ SortedTo (arrOf st'') a₀.size) ?_ ?_ ⟨rfl, .inl ⟨rfl, hD⟩⟩) ?_)
    · rintro y c st'' _ _ ⟨rfl, ⟨rfl, hD⟩ | ⟨q1, q2, q3, q4⟩⟩
      · refine wpS_bind (wpS_get ?_)
        skip
        rcases hD with ⟨b, sf⟩ | ⟨n1, n2, pw, b, e, g1, g2, s1, s2⟩
        · rw [if_pos (by rw [b.pend]; exact Nat.le_refl 1)]
          exact wpS_pure ⟨rfl, b.perm, b.failed, fun i j hij hj => sf i j (Nat.zero_le _) hij (by omega)⟩
        · rw [if_neg (by rw [b.pend]; simp)]
          rw [b.pend]
          refine wpS_bind (wpS_mergeAt b.kind (b.keys h0) b.failed b.pend (by rw [b.size]; omega) g1 g2 (fun i j hij hj => s1 i j (Nat.zero_le _) hij (by omega)) (fun i j hi hij hj => s2 i j hi hij hj) fun st5 f5 p5 pm5 so5 => ?_)
          refine wpS_pure ⟨rfl, .inr ⟨pm5.trans b.perm, f5, by rw [p5]; exact Nat.le_refl 1, fun i j hij hj => so5 i j hij (by rw [pm5.size_eq, b.size]; exact hj)⟩⟩
      · refine wpS_bind (wpS_get ?_)
        skip
        rw [if_pos q3]
        exact wpS_pure ⟨rfl, q1, q2, q4⟩
    · rintro c st'' ⟨rfl, ⟨hy, _⟩ | ⟨q1, q2, q3, q4⟩⟩
      · omega
      · exact ⟨rfl, q1, q2, q4⟩
    · rintro c st'' ⟨rfl, q1, q2, q4⟩
      exact wpS_pure (h _ q1 q2 q4)
end
section
variable {prog : Program} {w : World} {A : Around} {E : Value → Shared → Prop} {s : Shared}
theorem sort_far {c : Addr} {us : List Value} {ks : List Int} {m : Nat} {P : PySem.Fin → Shared → Prop} (hc : s.heap.get? c = some (seqObj "list" us.toArray m)) (hu : IntsAre us ks) (l1 : 64 ≤ us.length) (l2 : us.length < 128)
    (q : ∀ (out : Array Value) (js : List Int), IntsAre out.toList js → js.Perm ks → js.Pairwise (· ≤ ·) → P (.done (.ret .none)) { s with heap := sortedHeap s.heap c us out }) : wpAny (model prog w) A (Builtin.«list.sort» ⟨[.ref c], []⟩) P E s := by
  have hlt : c < s.heap.objs.size := Heap.lt_size hc
  have hn : us.toArray.size = us.length := by simp
  obtain ⟨e, h1⟩ : ∃ e, (s.heap.update c (Obj.mapSeq fun _ => #[])).get? c = some (seqObj "list" #[] e) := ⟨_, get?_update_seq hc _⟩
  have h2 : (((s.heap.update c (Obj.mapSeq fun _ => #[])).push (seqObj "tuple" us.toArray 0)).push (seqObj "list" #[] 0)).get? c = some (seqObj "list" #[] e) := Heap.get?_push_of_some _ (Heap.get?_push_of_some _ h1)
  have hz1 : us.length ≤ sizeLine := by rw [sizeLine_eq]; omega
  rw [list_sort_plain]
  refine wpAny_bind (listItems_at hc rfl (wpAny_bind (listUpdate_at hc rfl (wpAny_bind (seqEpoch_at h1 rfl (wpAny_bind (wpAny_newTuple (wpAny_bind (wpAny_newList (wpAny_holding ?_) (Nat.zero_le _))) hz1)))) (by rw [List.size_toArray]; exact hz1) (Nat.zero_le _))))
  show wpAny (model prog w) A _ P E { s with heap := ((s.heap.update c (Obj.mapSeq fun _ => #[])).push (seqObj "tuple" us.toArray 0)).push (seqObj "list" #[] 0) }
  have b2 : ¬ us.toArray.size < 2 := by omega
  dsimp only
  rw [if_neg b2, if_neg b2]
  obtain ⟨u1, u2, ut, rfl⟩ : ∃ u1 u2 ut, us = u1 :: u2 :: ut := by
    match us, l1 with
    | u1 :: u2 :: ut, _ => exact ⟨u1, u2, ut, rfl⟩
  rw [keyKind_ints hu]
  refine wpAny_bind (wpAny_pure (wpAny_bind (wpAny_mono (wpS_runs (a₀ := pairsOf (u1 :: u2 :: ut)) (Q := fun _ z => (arrOf z).Perm (pairsOf (u1 :: u2 :: ut)) ∧ failedOf z = none ∧ SortedTo (arrOf z) (pairsOf (u1 :: u2 :: ut)).size)
    hu.intKeys ⟨Array.Perm.refl _, rfl, rfl, rfl⟩ (by rw [pairsOf_size]; exact l1) (by rw [pairsOf_size]; exact l2) fun z z1 z2 z3 => ⟨z1, z2, z3⟩) ?_ fun _ _ x => x)))
  rintro ⟨⟨⟩, z⟩ s' ⟨rfl, z1, z2, z3⟩
  obtain ⟨js, j1, j2, j3⟩ := sorted_out hu z1 z3
  have hz : ((arrOf z).map (·.2)).size ≤ sizeLine + 1 := by
    rw [Array.size_map, z1.size_eq, pairsOf_size, sizeLine_eq]
    omega
  dsimp only
  refine wpAny_bind (seqEpoch_at h2 rfl (wpAny_bind (listUpdate_at h2 rfl ?_ (hsz2 := hz))))
  rw [z2]
  simp only [bne_self_eq_false, Bool.false_eq_true, if_false]
  exact wpAny_pure (q _ js j1 j2 j3)
theorem sorted_far {c : Addr} {us : List Value} {ks : List Int} {Q : Value → Shared → Prop} (hc : s.heap.IsList c us.toArray) (hu : IntsAre us ks) (l1 : 64 ≤ us.length) (l2 : us.length < 128)
    (q : ∀ (out : Array Value) (js : List Int), IntsAre out.toList js → js.Perm ks → js.Pairwise (· ≤ ·) → Q (.ref (s.heap.objs.size + 1)) { s with heap := sortedAll s.heap us out }) : wpAny (model prog w) A (call (.builtin "sorted") [.ref c]) Q E s := by
  have hn : ((s.heap.push (seqObj "list" #[] 0)).update s.heap.objs.size (Obj.mapSeq (· ++ us.toArray))).objs.size = s.heap.objs.size + 1 := (Heap.size_update _ _ _).trans (size_push' _ _)
  have hL := hn ▸ Heap.get?_push_size ((s.heap.push (seqObj "list" #[] 0)).update s.heap.objs.size (Obj.mapSeq (· ++ us.toArray))) (o := seqObj "list" us.toArray 0) rfl
  refine Calls.call_function_entry kind_sorted plain_sorted entry_sorted (args_sorted1 _) ?_
  unfold Builtin.«sorted»
  have hz1 : us.length ≤ sizeLine := by rw [sizeLine_eq]; omega
  refine wpAny_bind (m := checkCount "sorted" 1 1 _) (wpAny_pure (wpAny_bind (collect_list hc (wpAny_bind (wpAny_newList ?_ hz1)) hz1)))
  show wpAny _ _ _ _ _ { s with heap := ((s.heap.push (seqObj "list" #[] 0)).update s.heap.objs.size (Obj.mapSeq (· ++ us.toArray))).push (seqObj "list" us.toArray 0) }
  rw [hn]
  exact wpAny_bind (wpAny_holding (wpAny_call_entry slot_list_sort ⟨_, hL, rfl⟩ entry_list_sort (sort_far hL hu l1 l2 fun out js a1 a2 a3 => ⟨_, rfl, wpAny_pure ⟨_, rfl, q out js a1 a2 a3⟩⟩) (args_list_sort _)))
end
end Lg
namespace L2
open PySem PySem.Spec PyProof.Rows
theorem call_sortedN {X : Cx} : CallR X (.builtin "sorted") (fun xs H Q => ∃ (p : Addr) (ns : List Int), xs = [.ref p] ∧ SqL X.K H p (ns.map V.int) ∧ ns.length < 128 ∧ ∀ (q : Addr) (ms : List Int), H q = none → ms.Perm ns → ms.Pairwise (· ≤ ·) → Q (.ref q) (upd H q (.lst (ms.map V.int)))) := by
  intro pins s σ H xs us Q I r h
  obtain ⟨p, ns, rfl, hl, h2, q⟩ := h
  by_cases h64 : ns.length < 64
  · exact call_sorted pins s σ H _ us Q I r ⟨p, ns, rfl, hl, h64, q⟩
  obtain ⟨u, rfl, ru⟩ := vals1 r
  cases ru
  obtain ⟨its, r', pl, hz⟩ := I.list hl
  have hi : IntsAre its ns := intsAre_of r'
  refine Lg.sorted_far pl.isList hi (by rw [hi.length]; omega) (by rw [hi.length]; exact h2) fun out ms ho hp hs => ?_
  obtain ⟨e, he⟩ := sortedAll_at s.heap its out
  have lm : (ms.map V.int).length ≤ sizeLine := by rw [List.length_map, hp.length_eq]; exact sz (by omega)
  exact ⟨.ref _, _, I.laid (t' := s.toks) (o := .lst (ms.map V.int)) (fun b u e => sortedAll_old e) (Nat.le_succ _) ⟨lm, out.toList, e, vals_intsA ho, by simpa [seqObj] using he⟩, rfl, q _ ms (I.hok.fresh (Nat.le_succ _)) hp hs⟩
end L2
set_option Elab.async false
set_option linter.all false
set_option maxRecDepth 100000
set_option maxHeartbeats 4000000
namespace L2
open PySem PySem.Spec PyProof.Rows
section
variable {X : Cx} {tg : Expr}
end
section
variable {X : Cx} {a b c d : Expr} {ta tb tc td : TE} {pos : Pos}
noncomputable def tCh3 (r1 r2 r3 : R2) (ta tb tc td : TE) : TE := fun σ H Q => ta σ H fun x H1 => tb σ H1 fun y H2 => r1 x y H2 fun z H3 => ∃ k, z = .bl k ∧
  (if k = true then tc σ H3 fun w' H4 => r2 y w' H4 fun z' H5 => ∃ k', z' = .bl k' ∧ (if k' = true then td σ H5 fun v' H6 => r3 w' v' H6 Q else Q (.bl false) H5) else Q (.bl false) H3)
theorem pt_ch3 {o1 o2 o3 : CmpOp} {r1 r2 r3 : R2} (h1 : OpR X (compareOp o1) r1) (h2 : OpR X (compareOp o2) r2) (h3 : OpR X (compareOp o3) r3) (ha : PE X a ta) (hb : PE X b tb) (hc : PE X c tc) (hd : PE X d td)
    (hm : lastMarks [o1, o2, o3] [b, c, d] = false := by with_unfolding_all rfl) : PT X (.Compare a [o1, o2, o3] [b, c, d] pos) (tTest (tCh3 r1 r2 r3 ta tb tc td)) := by
  intro pins s σ H Q I h
  refine isTrue_chain (thn (ha pins s σ H _ I h) fun v s1 ⟨x, H1, I1, x1, q1⟩ => test_link (thn (hb pins s1 σ H1 _ I1 q1) fun u s2 ⟨y, H2, I2, x2, q2⟩ =>
    thn (h1 pins s2 σ H2 x y v u _ I2 x1 x2 q2) fun e s3 ⟨z, H3, I3, x3, k, ek, q3⟩ => ?_)) hm
  subst ek
  cases x3
  refine wpAny_truthy_bool ?_
  cases k with
  | false =>
    obtain ⟨k', e', q'⟩ := q3
    cases e'
    exact ite_ff ⟨H3, I3, q'⟩
  | true =>
    refine ite_tt (test_link (thn (hc pins s3 σ H3 _ I3 q3) fun w' s4 ⟨z', H4, I4, x4, q4⟩ => thn (h2 pins s4 σ H4 y z' u w' _ I4 x2 x4 q4) fun d' s5 ⟨z2, H5, I5, x5, k2, e2, q5⟩ => ?_))
    subst e2
    cases x5
    refine wpAny_truthy_bool ?_
    cases k2 with
    | false =>
      obtain ⟨k', e', q'⟩ := q5
      cases e'
      exact ite_ff ⟨H5, I5, q'⟩
    | true =>
      refine ite_tt (test_last (thn (hd pins s5 σ H5 _ I5 q5) fun w2 s6 ⟨z3, H6, I6, x6, q6⟩ => thn (h3 pins s6 σ H6 z' z3 w' w2 _ I6 x4 x6 q6) fun d2 s7 ⟨z4, H7, I7, x7, k3, e3, q7⟩ => ?_))
      subst e3
      cases x7
      exact wpAny_truthy_bool ⟨H7, I7, q7⟩
end
end L2
namespace Ck
open PySem L2
theorem EqD.prs {K : PySem.W.Frag} {H : Hp} {a b : Addr} {ps qs : List Pair} (ne : a ≠ b) (ha : PLs H a ps) (hb : PLs H b qs) : EqD K H 2 (.ref a) (.ref b) (decide (ps = qs)) := by
  obtain ⟨xs, ea, lx, px⟩ := ha.len
  obtain ⟨ys, eb, ly, py⟩ := hb.len
  by_cases hl : ps.length = qs.length
  · have h := EqD.lst (K := K) (n := 1) (e := fun j => decide (ps.getD j (0, 0) = qs.getD j (0, 0))) ne (SqL.of ea) (SqL.of eb) (by omega) (fun j x y hx hy => by
      obtain ⟨p, t, hp, rfl, ht⟩ := px.get hx
      obtain ⟨r, u, hr, rfl, hu⟩ := py.get hy
      rw [List.getD_eq_getElem?_getD, List.getD_eq_getElem?_getD, hp, hr]
      show EqD K H 1 _ _ (decide (p = r))
      by_cases e : t = u
      · subst e
        have : p = r := by
          rw [ht] at hu
          injection hu with hu; injection hu with hu
          injection hu with h1 h2; injection h2 with h2 _
          injection h1 with h1; injection h2 with h2
          exact Prod.ext h1 h2
        rw [decide_eq_true this]
        exact EqD.same
      · have := EqD.two (K := K) (n := 0) e ht hu
        have e2 : decide (p = r) = (decide (p.1 = r.1) && decide (p.2 = r.2)) := by
          rw [Bool.eq_iff_iff, Bool.and_eq_true, decide_eq_true_iff, decide_eq_true_iff, decide_eq_true_iff]
          exact ⟨fun z => by rw [z]; exact ⟨rfl, rfl⟩, fun z => Prod.ext z.1 z.2⟩
        rw [e2]
        exact this)
    have e : (List.range xs.length).all (fun j => decide (ps.getD j (0, 0) = qs.getD j (0, 0))) = decide (ps = qs) := by
      rw [Bool.eq_iff_iff, List.all_eq_true, decide_eq_true_iff]
      constructor
      · intro h
        refine List.ext_getElem hl fun k h1 h2 => ?_
        have := of_decide_eq_true (h k (List.mem_range.mpr (by omega)))
        rw [List.getD_eq_getElem?_getD, List.getD_eq_getElem?_getD, List.getElem?_eq_getElem h1, List.getElem?_eq_getElem h2] at this
        exact this
      · intro h k _
        rw [h]
        exact decide_eq_true rfl
    rw [e] at h
    exact h
  · have : decide (ps = qs) = false := decide_eq_false fun z => hl (by rw [z])
    rw [this]
    exact EqD.lstN ne (SqL.of ea) (SqL.of eb) (by omega)
end Ck
namespace Ck
open PySem L2
noncomputable def flatP : List Pair → List Int
  | [] => []
  | p :: ps => p.1 :: p.2 :: flatP ps
theorem flatP_len : ∀ ps : List Pair, (flatP ps).length = 2 * ps.length
  | [] => rfl
  | p :: ps => by
    show (flatP ps).length + 1 + 1 = 2 * (ps.length + 1)
    have := flatP_len ps
    omega
theorem flatP_app : ∀ ps qs : List Pair, flatP (ps ++ qs) = flatP ps ++ flatP qs
  | [], qs => rfl
  | p :: ps, qs => by
    show p.1 :: p.2 :: flatP (ps ++ qs) = _
    rw [flatP_app ps qs]
    rfl
theorem flatP_mem {x : Int} : ∀ {ps : List Pair}, x ∈ flatP ps ↔ ∃ p ∈ ps, x = p.1 ∨ x = p.2
  | [] => by simp [flatP]
  | p :: ps => by
    show x ∈ p.1 :: p.2 :: flatP ps ↔ _
    rw [List.mem_cons, List.mem_cons, flatP_mem (ps := ps)]
    constructor
    · rintro (h | h | ⟨r, hr, h⟩)
      · exact ⟨p, List.mem_cons_self .., .inl h⟩
      · exact ⟨p, List.mem_cons_self .., .inr h⟩
      · exact ⟨r, List.mem_cons_of_mem _ hr, h⟩
    · rintro ⟨r, hr, h⟩
      rcases List.mem_cons.mp hr with rfl | hr
      · rcases h with h | h
        · exact .inl h
        · exact .inr (.inl h)
      · exact .inr (.inr ⟨r, hr, h⟩)
noncomputable abbrev fsP (ps : List Pair) (k : Nat) : Int := (ps.getD k (0, 0)).1
noncomputable abbrev snP (ps : List Pair) (k : Nat) : Int := (ps.getD k (0, 0)).2
noncomputable def stB (ps : List Pair) (k : Nat) : Bool := decide (fsP ps k < snP ps k) && (decide (k = 0) || decide (fsP ps (k - 1) < fsP ps k))
noncomputable def crsP (p r : Pair) : Bool := decide (p.1 < r.1) && (decide (r.1 < p.2) && decide (p.2 < r.2))
noncomputable def crossB (ps : List Pair) : Bool := ps.any fun p => ps.any (crsP p)
noncomputable def isBows (ps : List Pair) : Bool := (List.range ps.length).all (stB ps) && (eachB (flatP ps) && !crossB ps)
theorem stB_all {ps : List Pair} : (List.range ps.length).all (stB ps) = true ↔ ∀ k, k < ps.length → fsP ps k < snP ps k ∧ (k = 0 ∨ fsP ps (k - 1) < fsP ps k) := by
  rw [List.all_eq_true]
  constructor
  · intro h k hk
    have := h k (List.mem_range.mpr hk)
    unfold stB at this
    simpa using this
  · intro h k hk
    have := h k (List.mem_range.mp hk)
    unfold stB
    simpa using this
theorem fsP_lt {ps : List Pair} (h : ∀ k, k < ps.length → k = 0 ∨ fsP ps (k - 1) < fsP ps k) : ∀ (j i : Nat), i < j → j < ps.length → fsP ps i < fsP ps j
  | 0, i, hi, _ => absurd hi (Nat.not_lt_zero _)
  | j + 1, i, hi, hj => by
    have h1 := (h (j + 1) hj).resolve_left (by omega)
    rw [Nat.add_sub_cancel] at h1
    by_cases e : i = j
    · subst e; exact h1
    · exact Int.lt_trans (fsP_lt h j i (by omega) (by omega)) h1
theorem getD_memP {ps : List Pair} {k : Nat} (h : k < ps.length) : ps.getD k (0, 0) ∈ ps := by
  rw [List.getD_eq_getElem?_getD, List.getElem?_eq_getElem h]
  exact List.getElem_mem h
theorem mem_getDP {ps : List Pair} {p : Pair} (h : p ∈ ps) : ∃ k, k < ps.length ∧ ps.getD k (0, 0) = p := by
  obtain ⟨k, hk, e⟩ := List.getElem_of_mem h
  exact ⟨k, hk, by rw [List.getD_eq_getElem?_getD, List.getElem?_eq_getElem hk]; exact e⟩
theorem nodup_fst {ps : List Pair} (h : (flatP ps).Nodup) : ps.Pairwise fun p q => p.1 ≠ q.1 := by
  induction ps with
  | nil => exact .nil
  | cons p ps ih =>
    have h' : (p.1 :: p.2 :: flatP ps).Nodup := h
    rw [List.nodup_cons, List.nodup_cons] at h'
    refine .cons (fun q hq e => h'.1 ?_) (ih h'.2.2)
    rw [e]
    exact List.mem_cons_of_mem _ (flatP_mem.mpr ⟨q, hq, .inl rfl⟩)
theorem rgI_nd (n : Nat) : (rgI n).Nodup := (rgI_lt n).imp fun h => Int.ne_of_lt h
theorem isBows_sorted {ps qs : List Pair} (hp : qs.Perm ps) (hs : qs.Pairwise leP) (hE : eachB (flatP ps) = true) : decide (ps = qs) = true ↔ ∀ k, k < ps.length → k = 0 ∨ fsP ps (k - 1) < fsP ps k := by
  have nd : (flatP ps).Nodup := ((eachB_iff _).mp hE).nodup_iff.mpr (rgI_nd _)
  have ne := nodup_fst nd
  rw [decide_eq_true_iff]
  constructor
  · intro e k hk
    rw [← e] at hs
    by_cases h0 : k = 0
    · exact .inl h0
    refine .inr ?_
    have h1 := List.pairwise_iff_getElem.mp hs (k - 1) k (by omega) hk (by omega)
    have h2 := List.pairwise_iff_getElem.mp ne (k - 1) k (by omega) hk (by omega)
    have e1 : ps.getD (k - 1) (0, 0) = ps[k - 1] := by rw [List.getD_eq_getElem?_getD, List.getElem?_eq_getElem (by omega)]; rfl
    have e2 : ps.getD k (0, 0) = ps[k] := by rw [List.getD_eq_getElem?_getD, List.getElem?_eq_getElem hk]; rfl
    unfold fsP
    rw [e1, e2]
    unfold leP at h1
    omega
  · intro h
    refine List.Perm.eq_of_pairwise (le := leP) (fun a b _ _ h1 h2 => ?_) ?_ hs hp.symm
    · unfold leP at h1 h2
      exact Prod.ext (by omega) (by omega)
    · refine List.pairwise_iff_getElem.mpr fun i j hi hj hij => ?_
      have := fsP_lt h j i hij hj
      unfold fsP at this
      rw [List.getD_eq_getElem?_getD, List.getD_eq_getElem?_getD, List.getElem?_eq_getElem hi, List.getElem?_eq_getElem hj] at this
      exact .inl this
theorem all_lt {ps : List Pair} : (ps.all fun p => decide (p.1 < p.2)) = true ↔ ∀ k, k < ps.length → fsP ps k < snP ps k := by
  rw [List.all_eq_true]
  constructor
  · intro h k hk
    exact of_decide_eq_true (h _ (getD_memP hk))
  · intro h p hp
    obtain ⟨k, hk, rfl⟩ := mem_getDP hp
    exact decide_eq_true (h k hk)
theorem isBows_no {ps : List Pair} (h : eachB (flatP ps) = false) : isBows ps = false := by unfold isBows; rw [h]; simp
theorem isBows_mix {ps qs : List Pair} (hp : qs.Perm ps) (hs : qs.Pairwise leP) (hE : eachB (flatP ps) = true) (h : ps ≠ qs) : isBows ps = false := by
  cases e : isBows ps with
  | false => rfl
  | true =>
    unfold isBows at e
    rw [Bool.and_eq_true] at e
    exact absurd (of_decide_eq_true ((isBows_sorted hp hs hE).mpr fun k hk => (stB_all.mp e.1 k hk).2)) h
theorem isBows_rest {ps qs : List Pair} (hp : qs.Perm ps) (hs : qs.Pairwise leP) (hE : eachB (flatP ps) = true) (h : ps = qs) : isBows ps = ((ps.all fun p => decide (p.1 < p.2)) && !crossB ps) := by
  have a := (isBows_sorted hp hs hE).mp (decide_eq_true h)
  have b : (List.range ps.length).all (stB ps) = ps.all fun p => decide (p.1 < p.2) := by
    rw [Bool.eq_iff_iff, stB_all, all_lt]
    exact ⟨fun h k hk => (h k hk).1, fun h k hk => ⟨h k hk, a k hk⟩⟩
  unfold isBows
  rw [b, hE, Bool.true_and]
theorem crossB_iff {ps : List Pair} : crossB ps = true ↔ ∃ p ∈ ps, ∃ r ∈ ps, p.1 < r.1 ∧ r.1 < p.2 ∧ p.2 < r.2 := by
  unfold crossB
  rw [List.any_eq_true]
  constructor
  · rintro ⟨p, hp, h⟩
    obtain ⟨r, hr, h⟩ := List.any_eq_true.mp h
    unfold crsP at h
    exact ⟨p, hp, r, hr, by simpa using h⟩
  · rintro ⟨p, hp, r, hr, h⟩
    exact ⟨p, hp, List.any_eq_true.mpr ⟨r, hr, by unfold crsP; simpa using h⟩⟩
end Ck
set_option Elab.async false
set_option linter.all false
set_option maxRecDepth 100000
set_option maxHeartbeats 4000000
namespace L2
open PySem PySem.Spec PyProof.Rows
noncomputable def Itq (x : Str) : It := ⟨fun i _ => i < x.cps.size, fun i H v H' => ∃ T c, H T = none ∧ x.cps[i]? = some c ∧ v = .ref T ∧ H' = upd H T (.tup [.int i, .str ⟨#[c]⟩]), fun i _ => i = x.cps.size⟩
theorem turn_enumS {P : Program} {w : World} {K : PySem.W.Frag} {elts : List Expr} {k0 : Nat} {tp : Pos} (e it : Addr) (hei : e ≠ it) (ty : String) (x : Str) (t : Tok)
    (D : ∀ A : Around, A.handled = none → Draws P w A it [it] x.cps.size (fun i v => ∃ c u, x.cps[i]? = some c ∧ v = .str ⟨#[c]⟩ u) (fun i h => h.IsStrIter it ty x t i)) :
    Turn P w K (.Tuple elts k0 tp) (Itq x) [e, it] e (fun i h => (∃ old, IsEnum h e it i old) ∧ h.IsStrIter it ty x t i) where
  mem := by simp
  obj := fun i h st b hb => by
    obtain ⟨⟨old, he⟩, o, ho, c, d⟩ := st
    rcases List.mem_cons.mp hb with z | z
    · rw [z]
      exact ⟨_, he, fun v z => by
        have z' : Data.fields _ = Data.cell v := z
        cases z'⟩
    · rw [show b = it by simpa using z]
      exact ⟨o, ho, fun v z => by rw [d] at z; cases z⟩
  keep := fun i h h' st k => ⟨let ⟨old, he⟩ := st.1; ⟨old, k e (by simp) _ he⟩, let ⟨o, ho, r⟩ := st.2; ⟨o, k it (by simp) o ho, r⟩⟩
  item := by
    intro X hP hw hK hc i pins s σ H E I hf st hg
    subst hP hw hK
    obtain ⟨⟨old, he⟩, hit⟩ := st
    have fe := hf e (by simp)
    have fi := hf it (by simp)
    refine wpAny_pyNext_enum_itemD (D X.A.in1 (I.ok.hd hc)) he hit hg hei (by simpa using hei) fun v h1 tk hv ho hit1 hT hsz hk => ?_
    obtain ⟨c, u, ec, rfl⟩ := hv
    refine ⟨_, rfl, wpAny_letOwnedTupleGo_enum ho fun h2 he2 sb => ?_⟩
    have elt : e < s.heap.objs.size := Heap.lt_size he
    have ilt : it < s.heap.objs.size := by obtain ⟨_, q, _⟩ := hit; exact Heap.lt_size q
    have hit2 : h2.IsStrIter it ty x t (i + 1) := let ⟨o, q, r⟩ := hit1; ⟨o, (sb.2 it (Ne.symm hei)).trans q, r⟩
    have k2 : ∀ b o, b ≠ e → b ≠ it → s.heap.get? b = some o → h2.get? b = some o := fun b o b1 b2 q => (sb.2 b b1).trans (hk b o b1 b2 q)
    have I2 : Inv X pins σ H { s with heap := h2, toks := tk + 1 } := I.turned2 k2 ⟨_, he2⟩ (by obtain ⟨o, q, _⟩ := hit2; exact ⟨o, q⟩) fe fi
    have oT : Ours X pins H s.heap.objs.size := by
      have fT : FpOk X pins H s.heap.objs.size := I.fpOk (Nat.le_refl _) (I.hok.fresh (Nat.le_refl _))
      exact ⟨Heap.get?_none_of_le I.sz, fT.1, fT.2.1, fT.2.2.2.2.1, fT.2.2.2.2.2⟩
    have hT2 : h2.get? s.heap.objs.size = some { cls := .type "tuple", data := .seq #[.int i tk, .str ⟨#[c]⟩ u] } := (sb.2 _ (Nat.ne_of_gt elt)).trans hT
    have I3 := I2.trackO (o' := .tup [.int i, .str ⟨#[c]⟩]) oT ⟨sz (n := 2) (by decide), [.int i tk, .str ⟨#[c]⟩ u], .cons ⟨_, rfl⟩ (.cons ⟨_, rfl⟩ .nil), _, hT2, rfl, _, rfl⟩
    refine ⟨.ref s.heap.objs.size, _, I3, rfl, ⟨_, c, oT.free, ec, rfl, rfl⟩, ⟨⟨_, by simpa using he2⟩, hit2⟩, fun b hb => ?_⟩
    rcases List.mem_cons.mp hb with z | z
    · rw [z, upd_ne (Nat.ne_of_lt elt)]; exact fe.1
    · rw [show b = it by simpa using z, upd_ne (Nat.ne_of_lt ilt)]; exact fi.1
  done := by
    intro X hP hw hK hc i pins s σ H E I hf st hg
    subst hP hw hK
    obtain ⟨⟨old, he⟩, hit⟩ := st
    obtain ⟨f0, f1, f2, f3, f4, f5⟩ := hf it (by simp)
    have hi : i = x.cps.size := hg
    subst hi
    refine wpAny_pyNext_enum_endD (D X.A.in1 (I.ok.hd hc)) he hit fun h2 eb => ⟨rfl, ?_⟩
    exact I.turned (t' := s.toks) (fun b o hb q => eb b o hb q) f0 f1 f3 f4 f5
  self := fun _ _ _ _ _ st h => by
    obtain ⟨⟨old, he⟩, _⟩ := st
    exact wpAny_pyIter_enum he h
noncomputable def iEnumS (ta : TA) : TI := fun σ H R => ta σ H fun vs H1 => ∃ x, vs = [.str x] ∧ R (Itq x) H1
section
variable {X : Cx}
theorem pi_enumS {elts : List Expr} {k0 : Nat} {tp : Pos} {a : Expr} {ta : TA} {p pos : Pos} (hg : Gl X "enumerate") (hm : X.mg "enumerate" = none) (ha : PA X [a] ta) (hs : starEach [a] X.env = [(false, eval a X.env)] := by rfl) :
    PI X (.Tuple elts k0 tp) (.Call (.Name "enumerate" p) [a] [] pos) (iEnumS ta) := by
  intro pins s σ H R I h
  refine Call_ (ld_blt I hg hm boot_enumerate (PyProof.Rows.callWith_type1 (thn (ha pos pins s σ H _ I h) fun us s1 ⟨vs, H1, I1, r1, q1⟩ => ?_) hs rfl))
  obtain ⟨x, rfl, q⟩ := q1
  obtain ⟨u, rfl, ru⟩ := vals1 r1
  obtain ⟨t, rfl⟩ := ru
  refine call_enumerate_str fun h2 he hit hsz hk => ?_
  have I2 : Inv X pins σ H1 { s1 with heap := h2 } := I1.kept (t' := s1.toks) hk
  have T : Turn X.prog X.w X.K (.Tuple elts k0 tp) (Itq x) [s1.heap.objs.size + 1, s1.heap.objs.size] (s1.heap.objs.size + 1) (fun i h => (∃ old, IsEnum h (s1.heap.objs.size + 1) s1.heap.objs.size i old) ∧ h.IsStrIter s1.heap.objs.size (strIterType x) x t i) := by
    cases hA : x.cps.all (· < 128)
    · rw [show strIterType x = "str_iterator" by simp [strIterType, hA]]
      exact turn_enumS _ _ (Nat.succ_ne_self _) _ x t fun A' h' => Draws.strWide h' _ x t
    · rw [show strIterType x = "str_ascii_iterator" by simp [strIterType, hA]]
      exact turn_enumS _ _ (Nat.succ_ne_self _) _ x t fun A' h' => Draws.strAscii h' _ x t
  refine wpAny_pyIter_enum he ⟨_, [s1.heap.objs.size + 1, s1.heap.objs.size], _, _, H1, rfl, I2, T, ⟨⟨_, he⟩, hit⟩, fun b hb => ?_, q⟩
  rcases List.mem_cons.mp hb with z | z
  · rw [z]; exact I1.fpOk (Nat.le_succ _) (I1.hok.fresh (Nat.le_succ _))
  · rw [show b = s1.heap.objs.size by simpa using z]; exact I1.fpOk (Nat.le_refl _) (I1.hok.fresh (Nat.le_refl _))
theorem for_enumS {x : Str} {g : TG} {tb : TS} {D : Ends} {σ : St} {H : Hp} (Pv : Nat → St → Hp → Prop) (h0 : Pv 0 σ H)
    (hs : ∀ i c σ H T, x.cps[i]? = some c → Pv i σ H → H T = none → g (.ref T) σ (upd H T (.tup [.int i, .str ⟨#[c]⟩])) fun σ2 H2 => tb { D with nx := Pv (i + 1), ct := Pv (i + 1), bk := D.nx } σ2 H2) (hd : ∀ σ H, Pv x.cps.size σ H → D.nx σ H) :
    ∃ W : Nat → Nat → St → Hp → Prop, (∃ m, W 0 m σ H) ∧ ∀ i m σ H, W i m σ H →
      ((Itq x).stop i H ∧ D.nx σ H) ∨ ((Itq x).go i H ∧ ∃ N : St → Hp → Prop, (∀ σ' H', N σ' H' → ∃ m', m' < m ∧ W (i + 1) m' σ' H') ∧ ∀ v H', (Itq x).yld i H v H' → g v σ H' fun σ2 H2 => tb { D with nx := N, ct := N, bk := D.nx } σ2 H2) := by
  refine ⟨fun i m σ H => m = x.cps.size - i ∧ i ≤ x.cps.size ∧ Pv i σ H, ⟨x.cps.size, by simp, Nat.zero_le _, h0⟩, ?_⟩
  rintro i m σ H ⟨rfl, hi, p⟩
  by_cases hlt : i < x.cps.size
  · refine .inr ⟨hlt, Pv (i + 1), fun σ' H' p' => ⟨x.cps.size - (i + 1), by omega, rfl, hlt, p'⟩, fun v H' y => ?_⟩
    obtain ⟨T, c, nT, hx, rfl, rfl⟩ := y
    exact hs i c σ H T hx p nT
  · have e : i = x.cps.size := by omega
    subst e
    exact .inl ⟨rfl, hd σ H p⟩
end
section
variable {X : Cx}
noncomputable def rNeF : R2 := fun x y H Q => ∃ a i j, x = .ref a ∧ y = .ref a ∧ H a = some (.tup [.int i, .int j]) ∧ Q (.bl false) H
theorem op_neF (hu : X.A.units + 100 < cLine) : OpR X (compareOp .NotEq) rNeF := by
  intro pins s σ H x y u v Q I ru rv h
  obtain ⟨a, i, j, rfl, rfl, ha, q⟩ := h
  cases (show u = Value.ref _ from ru)
  cases (show v = Value.ref _ from rv)
  obtain ⟨us, r, pl, _⟩ := I.tuple (SqT.of ha)
  refine SeqAt.RcNeAt.tuples (e := fun _ => true) pl pl (by omega) (fun j h1 h2 => ?_) _ _ _ _ ⟨.bl _, H, I, rfl, ?_⟩
  · obtain ⟨x, ex, rx⟩ := at_get r h1
    obtain ⟨k, rfl⟩ : ∃ k, x = .int k := by
      rcases List.mem_cons.mp (List.mem_of_getElem? ex) with z | z
      · exact ⟨_, z⟩
      · exact ⟨_, by simpa using z⟩
    have z := EqD.flat (K := X.K) (H := H) (n := 0) (x := V.int k) (y := V.int k) rfl rfl
    rw [show eqV (V.int k) (V.int k) = true from decide_eq_true rfl] at z
    exact z.at_ (A := X.A.in1) (by show X.A.units + 1 + 0 < cLine; omega) I rx rx
  · have e (k : Nat) : (List.range k).all (fun _ => true) = true := List.all_eq_true.mpr fun _ _ => rfl
    rw [e]
    simpa using q
end
end L2
namespace Ck
open PySem L2
noncomputable def Dp (c : List Nat) (j : Nat) : Int := (j : Int) - 2 * ((c.take j).count 41 : Nat)
theorem Dp_zero (c : List Nat) : Dp c 0 = 0 := by unfold Dp; simp
theorem Dp_succ {c : List Nat} {j : Nat} (h : j < c.length) : Dp c (j + 1) = Dp c j + 1 - 2 * (if c.getD j 0 = 41 then 1 else 0) := by
  unfold Dp
  have e : c.getD j 0 = c[j] := by rw [List.getD_eq_getElem?_getD, List.getElem?_eq_getElem h]; rfl
  rw [List.take_add_one, List.getElem?_eq_getElem h, List.count_append, e]
  have : ((some c[j]).toList).count 41 = if c[j] = 41 then 1 else 0 := by
    show [c[j]].count 41 = _
    rw [List.count_singleton]
    by_cases z : c[j] = 41 <;> simp [z]
  rw [this]
  split <;> omega
noncomputable def mateOf (c : List Nat) (k : Nat) : Int := match (List.range c.length).find? (fun j => decide (k ≤ j) && decide (Dp c (j + 1) = Dp c k)) with
  | some j => (j : Int)
  | none => -1
theorem mate_is {c : List Nat} {k j : Nat} (hk : k ≤ j) (hj : j < c.length) (h : Dp c (j + 1) = Dp c k) (before : ∀ m, k ≤ m → m < j → Dp c (m + 1) ≠ Dp c k) : mateOf c k = (j : Int) := by
  have : (List.range c.length).find? (fun j => decide (k ≤ j) && decide (Dp c (j + 1) = Dp c k)) = some j := by
    rw [List.find?_range_eq_some]
    refine ⟨by simp [hk, h], List.mem_range.mpr hj, fun m hm => ?_⟩
    by_cases z : k ≤ m
    · have := before m z hm
      simp [this]
    · simp [z]
  unfold mateOf
  rw [this]
theorem mate_no {c : List Nat} {k : Nat} (h : ∀ m, k ≤ m → m < c.length → Dp c (m + 1) ≠ Dp c k) : mateOf c k = -1 := by
  have : (List.range c.length).find? (fun j => decide (k ≤ j) && decide (Dp c (j + 1) = Dp c k)) = none := by
    rw [List.find?_eq_none]
    intro m hm
    by_cases z : k ≤ m
    · have := h m z (List.mem_range.mp hm)
      simp [this]
    · simp [z]
  unfold mateOf
  rw [this]
noncomputable def bwU (c : List Nat) (i : Nat) : List Pair := (List.range i).filterMap fun k => if c.getD k 0 = 40 then some ((k : Int), mateOf c k) else none
theorem bwU_succ (c : List Nat) (i : Nat) : bwU c (i + 1) = bwU c i ++ (if c.getD i 0 = 40 then [((i : Int), mateOf c i)] else []) := by
  unfold bwU
  rw [List.range_succ, List.filterMap_append]
  congr 1
  by_cases h : c.getD i 0 = 40
  · rw [if_pos h, List.filterMap_cons_some (by rw [if_pos h]), List.filterMap_nil]
  · rw [if_neg h, List.filterMap_cons_none (by rw [if_neg h]), List.filterMap_nil]
theorem bwU_lt (c : List Nat) (i : Nat) : (bwU c i).Pairwise fun p q => p.1 < q.1 := by
  unfold bwU
  refine List.Pairwise.filterMap _ ?_ List.pairwise_lt_range
  intro a b hab p hp q hq
  by_cases ha : c.getD a 0 = 40
  · by_cases hb : c.getD b 0 = 40
    · rw [if_pos ha] at hp
      rw [if_pos hb] at hq
      injection hp with hp
      injection hq with hq
      subst hp; subst hq
      show (a : Int) < (b : Int)
      omega
    · rw [if_neg hb] at hq
      cases hq
  · rw [if_neg ha] at hp
    cases hp
theorem mem_bwU {c : List Nat} {i : Nat} {p : Pair} : p ∈ bwU c i ↔ ∃ k, k < i ∧ c.getD k 0 = 40 ∧ p = ((k : Int), mateOf c k) := by
  unfold bwU
  rw [List.mem_filterMap]
  constructor
  · rintro ⟨k, hk, h⟩
    by_cases ha : c.getD k 0 = 40
    · rw [if_pos ha] at h
      injection h with h
      exact ⟨k, List.mem_range.mp hk, ha, h.symm⟩
    · rw [if_neg ha] at h
      cases h
  · rintro ⟨k, hk, ha, rfl⟩
    exact ⟨k, List.mem_range.mpr hk, by rw [if_pos ha]⟩
structure Wk (c : List Nat) (i : Nat) (fd : List Pair) (sk : List Int) : Prop where
  prm : (fd ++ sk.map fun k => (k, mateOf c k.toNat)).Perm (bwU c i)
  flt : (flatP fd ++ sk).Perm (rgI i)
  dep : (sk.length : Int) = Dp c i
  stk : ∀ (s : Nat) (k : Int), sk[s]? = some k → 0 ≤ k ∧ k < (i : Int) ∧ Dp c k.toNat = (s : Int) ∧ ∀ j, k.toNat ≤ j → j < i → (s : Int) < Dp c (j + 1)
  prs : ∀ p ∈ fd, 0 ≤ p.1 ∧ p.1 < p.2 ∧ p.2 < (i : Int) ∧ Dp c (p.2.toNat + 1) = Dp c p.1.toNat ∧ ∀ j : Nat, p.1.toNat ≤ j → (j : Int) < p.2 → Dp c p.1.toNat < Dp c (j + 1)
theorem Wk.nil (c : List Nat) : Wk c 0 [] [] := ⟨.nil, .nil, by rw [Dp_zero]; rfl, fun s k h => by simp at h, fun p hp => by cases hp⟩
theorem Wk.up {c : List Nat} {i : Nat} {fd : List Pair} {sk : List Int} (w : Wk c i fd sk) (hi : i < c.length) (h : c.getD i 0 = 40) : Wk c (i + 1) fd (sk ++ [(i : Int)]) := by
  have hD := Dp_succ hi
  rw [h] at hD
  simp at hD
  refine ⟨?_, ?_, ?_, ?_, ?_⟩
  · rw [bwU_succ, if_pos h, List.map_append, ← List.append_assoc]
    have : [(i : Int)].map (fun k => (k, mateOf c k.toNat)) = [((i : Int), mateOf c i)] := by simp
    rw [this]
    exact w.prm.append_right _
  · rw [rgI_succ, ← List.append_assoc]
    exact w.flt.append_right _
  · rw [List.length_append, hD, ← w.dep]
    simp
  · intro s k hk
    by_cases e : s < sk.length
    · rw [List.getElem?_append_left e] at hk
      obtain ⟨h1, h2, h3, h4⟩ := w.stk s k hk
      refine ⟨h1, by omega, h3, fun j hj hji => ?_⟩
      by_cases ej : j = i
      · subst ej
        have := w.dep
        omega
      · exact h4 j hj (by omega)
    · rw [List.getElem?_append_right (by omega)] at hk
      have es : s = sk.length := by
        have := (List.getElem?_eq_some_iff.mp hk).1
        simp at this
        omega
      subst es
      have ek : (i : Int) = k := by simpa using hk
      subst ek
      refine ⟨by omega, by omega, ?_, fun j hj hji => ?_⟩
      · rw [show ((i : Nat) : Int).toNat = i by omega, w.dep]
      · have : j = i := by omega
        subst this
        have := w.dep
        omega
  · intro p hp
    obtain ⟨h1, h2, h3, h4, h5⟩ := w.prs p hp
    exact ⟨h1, h2, by omega, h4, h5⟩
theorem Wk.down {c : List Nat} {i : Nat} {fd : List Pair} {sk : List Int} {m : Int} (w : Wk c i fd (sk ++ [m])) (hi : i < c.length) (h : c.getD i 0 = 41) : Wk c (i + 1) (fd ++ [(m, (i : Int))]) sk := by
  have hD := Dp_succ hi
  rw [if_pos h] at hD
  obtain ⟨m0, m1, m2, m3⟩ := w.stk sk.length m (by simp)
  have dep := w.dep
  rw [List.length_append] at dep
  have dep' : (sk.length : Int) + 1 = Dp c i := by simpa using dep
  have hm : mateOf c m.toNat = (i : Int) := mate_is (by omega) hi (by omega) (fun j hj hji => by have := m3 j hj hji; omega)
  refine ⟨?_, ?_, by omega, ?_, ?_⟩
  · rw [bwU_succ, if_neg (by rw [h]; decide), List.append_nil]
    have p := w.prm
    rw [List.map_append] at p
    have e : [m].map (fun k => (k, mateOf c k.toNat)) = [(m, (i : Int))] := by simp [hm]
    rw [e] at p
    refine List.Perm.trans ?_ p
    rw [List.append_assoc]
    exact List.Perm.append_left _ List.perm_append_comm
  · rw [rgI_succ, flatP_app]
    have p := w.flt
    have e : flatP [(m, (i : Int))] = [m] ++ [(i : Int)] := rfl
    rw [e]
    refine List.Perm.trans ?_ (p.append_right _)
    rw [List.append_assoc, List.append_assoc, List.append_assoc]
    refine List.Perm.append_left _ ?_
    rw [← List.append_assoc]
    exact List.perm_append_comm.trans (by rw [List.append_assoc])
  · intro s k hk
    have hs := (List.getElem?_eq_some_iff.mp hk).1
    obtain ⟨h1, h2, h3, h4⟩ := w.stk s k (by rw [List.getElem?_append_left hs]; exact hk)
    refine ⟨h1, by omega, h3, fun j hj hji => ?_⟩
    by_cases ej : j = i
    · subst ej; omega
    · exact h4 j hj (by omega)
  · intro p hp
    rcases List.mem_append.mp hp with z | z
    · obtain ⟨h1, h2, h3, h4, h5⟩ := w.prs p z
      exact ⟨h1, h2, by omega, h4, h5⟩
    · have e : p = (m, (i : Int)) := by simpa using z
      subst e
      refine ⟨m0, m1, by show (i : Int) < ((i + 1 : Nat) : Int); omega, ?_, fun j hj hji => ?_⟩
      · show Dp c ((i : Int).toNat + 1) = Dp c m.toNat
        rw [show ((i : Nat) : Int).toNat = i by omega]
        omega
      · show Dp c m.toNat < _
        have hji : (j : Int) < (i : Int) := hji
        have := m3 j hj (by omega)
        omega
theorem Wk.sorted {c : List Nat} {n : Nat} {fd qs : List Pair} (w : Wk c n fd []) (hp : qs.Perm fd) (hs : qs.Pairwise leP) : qs = bwU c n := by
  have p := w.prm
  rw [List.map_nil, List.append_nil] at p
  refine List.Perm.eq_of_pairwise (le := leP) (fun a b _ _ h1 h2 => ?_) hs ((bwU_lt c n).imp fun h => .inl h) (hp.trans p)
  unfold leP at h1 h2
  exact Prod.ext (by omega) (by omega)
theorem Wk.bows {c : List Nat} {n : Nat} {fd : List Pair} (w : Wk c n fd []) : isBows (bwU c n) = true := by
  have p := w.prm
  rw [List.map_nil, List.append_nil] at p
  have f := w.flt
  rw [List.append_nil] at f
  have fp : (flatP (bwU c n)).Perm (flatP fd) := by
    have go : ∀ {as bs : List Pair}, as.Perm bs → (flatP as).Perm (flatP bs) := by
      intro as bs h
      induction h with
      | nil => exact .nil
      | cons x _ ih => exact (ih.cons _).cons _
      | swap x y l =>
        show (y.1 :: y.2 :: x.1 :: x.2 :: flatP l).Perm (x.1 :: x.2 :: y.1 :: y.2 :: flatP l)
        exact (List.perm_append_comm (l₁ := [y.1, y.2]) (l₂ := [x.1, x.2])).append_right (flatP l)
      | trans _ _ i1 i2 => exact i1.trans i2
    exact go p.symm
  have al : ∀ k, k < (bwU c n).length → (bwU c n).getD k (0, 0) ∈ fd := fun k hk => p.mem_iff.mpr (getD_memP hk)
  unfold isBows
  rw [Bool.and_eq_true, Bool.and_eq_true]
  refine ⟨stB_all.mpr fun k hk => ⟨(w.prs _ (al k hk)).2.1, ?_⟩, (eachB_iff _).mpr ?_, ?_⟩
  · by_cases e : k = 0
    · exact .inl e
    · refine .inr ?_
      have := List.pairwise_iff_getElem.mp (bwU_lt c n) (k - 1) k (by omega) hk (by omega)
      unfold fsP
      rw [List.getD_eq_getElem?_getD, List.getD_eq_getElem?_getD, List.getElem?_eq_getElem hk, List.getElem?_eq_getElem (show k - 1 < (bwU c n).length by omega)]
      exact this
  · have e := (fp.trans f).length_eq
    rw [rgI_len] at e
    rw [e]
    exact fp.trans f
  · cases e : crossB (bwU c n) with
    | false => rfl
    | true =>
      obtain ⟨a, ha, b, hb, h1, h2, h3⟩ := crossB_iff.mp e
      obtain ⟨a1, a2, a3, a4, a5⟩ := w.prs a (p.mem_iff.mpr ha)
      obtain ⟨b1, b2, b3, b4, b5⟩ := w.prs b (p.mem_iff.mpr hb)
      have x1 := b5 a.2.toNat (by omega) (by omega)
      have x2 := a5 (b.1.toNat - 1) (by omega) (by omega)
      rw [show b.1.toNat - 1 + 1 = b.1.toNat by omega] at x2
      omega
theorem bwU_len {c : List Nat} : ∀ i, i ≤ c.length → (bwU c i).length = (c.take i).count 40
  | 0, _ => by simp [bwU]
  | i + 1, h => by
    have hi : i < c.length := by omega
    rw [bwU_succ, List.length_append, bwU_len i (by omega), List.take_add_one, List.getElem?_eq_getElem hi, List.count_append, List.getD_eq_getElem?_getD, List.getElem?_eq_getElem hi]
    show _ + (if c[i] = 40 then [((i : Int), mateOf c i)] else []).length = _ + [c[i]].count 40
    rw [List.count_singleton]
    by_cases e : c[i] = 40 <;> simp [e]
noncomputable def stR : Nat → List Nat → List Int
  | _, [] => []
  | k, c :: t => if c = 40 then (k : Int) :: stR k t else stR (k + 1) t
theorem stR_up (k : Nat) (t : List Nat) : stR k (40 :: t) = (k : Int) :: stR k t := by conv => lhs; unfold stR; rw [if_pos rfl]
theorem stR_dn (k : Nat) {c : Nat} (t : List Nat) (h : c ≠ 40) : stR k (c :: t) = stR (k + 1) t := by conv => lhs; unfold stR; rw [if_neg h]
theorem stR_rep : ∀ (m k : Nat) (t : List Nat), stR k (List.replicate m 41 ++ t) = stR (k + m) t
  | 0, k, t => rfl
  | m + 1, k, t => by
    rw [List.replicate_succ, List.cons_append, stR_dn k _ (by decide), stR_rep m (k + 1) t]
    congr 1
    omega
noncomputable def txF (N : Nat) : Nat → List Int → List Nat
  | k, [] => List.replicate (N - k) 41
  | k, n :: ns => List.replicate (n.toNat - k) 41 ++ 40 :: txF N n.toNat ns
theorem tx_st {N : Nat} : ∀ (c : List Nat) (k k0 : Nat), k0 ≤ k → (∀ x ∈ c, x = 40 ∨ x = 41) → N = k + c.count 41 → txF N k0 (stR k c) = List.replicate (k - k0) 41 ++ c
  | [], k, k0, h0, hc, hN => by
    have : N = k := by simpa using hN
    subst this
    simp [stR, txF]
  | x :: c, k, k0, h0, hc, hN => by
    rcases hc x (List.mem_cons_self ..) with e | e
    · subst e
      have hN' : N = k + c.count 41 := by simpa using hN
      rw [stR_up]
      show List.replicate ((k : Int).toNat - k0) 41 ++ 40 :: txF N (k : Int).toNat (stR k c) = _
      rw [show ((k : Nat) : Int).toNat = k by omega, tx_st c k k (Nat.le_refl _) (fun x hx => hc x (List.mem_cons_of_mem _ hx)) hN']
      simp
    · subst e
      have hN' : N = k + 1 + c.count 41 := by
        rw [hN, List.count_cons_self]
        omega
      rw [stR_dn k _ (by decide), tx_st c (k + 1) k0 (by omega) (fun x hx => hc x (List.mem_cons_of_mem _ hx)) hN']
      rw [show k + 1 - k0 = (k - k0) + 1 by omega, List.replicate_succ', List.append_assoc]
      rfl
theorem st_tx {N : Nat} : ∀ (ns : List Int) (j : Nat) (a : Int), 0 ≤ a → stF j a ns = true → stR a.toNat (txF N a.toNat ns) = ns
  | [], j, a, ha, h => by
    have := stR_rep (N - a.toNat) a.toNat []
    rw [List.append_nil] at this
    exact this
  | n :: ns, j, a, ha, h => by
    by_cases hb : n < a ∨ (j : Int) < n
    · rw [stF_bad hb] at h; cases h
    rw [stF_go hb] at h
    show stR a.toNat (List.replicate (n.toNat - a.toNat) 41 ++ 40 :: txF N n.toNat ns) = _
    rw [stR_rep, show a.toNat + (n.toNat - a.toNat) = n.toNat by omega, stR_up, st_tx ns (j + 1) n (by omega) h]
    congr 1
    omega
theorem clo_rep : ∀ (m d : Nat) (t : List Nat), clo (d + m) (List.replicate m 41 ++ t) = clo d t
  | 0, d, t => rfl
  | m + 1, d, t => by
    rw [List.replicate_succ, List.cons_append, ← Nat.add_assoc, clo_down, clo_rep m d t]
theorem clo_tx : ∀ (ns : List Int) (j : Nat) (a : Int), 0 ≤ a → a ≤ (j : Int) → stF j a ns = true → clo (j - a.toNat) (txF (j + ns.length) a.toNat ns) = true
  | [], j, a, ha, haj, h => by
    have := clo_rep (j - a.toNat) 0 []
    rw [List.append_nil, Nat.zero_add] at this
    show clo (j - a.toNat) (List.replicate (j + 0 - a.toNat) 41) = true
    rw [Nat.add_zero, this]
    rfl
  | n :: ns, j, a, ha, haj, h => by
    by_cases hb : n < a ∨ (j : Int) < n
    · rw [stF_bad hb] at h; cases h
    rw [stF_go hb] at h
    show clo (j - a.toNat) (List.replicate (n.toNat - a.toNat) 41 ++ 40 :: txF (j + (ns.length + 1)) n.toNat ns) = true
    have := clo_rep (n.toNat - a.toNat) (j - n.toNat) (40 :: txF (j + (ns.length + 1)) n.toNat ns)
    rw [show j - n.toNat + (n.toNat - a.toNat) = j - a.toNat by omega] at this
    rw [this, clo_up]
    have ih := clo_tx ns (j + 1) n (by omega) (by omega) h
    rw [show j + 1 - n.toNat = j - n.toNat + 1 by omega, show j + 1 + ns.length = j + (ns.length + 1) by omega] at ih
    exact ih
theorem tx_ups (N : Nat) : ∀ (ns : List Int) (k : Nat), (txF N k ns).count 40 = ns.length
  | [], k => by simp [txF, List.count_replicate]
  | n :: ns, k => by
    show (List.replicate (n.toNat - k) 41 ++ 40 :: txF N n.toNat ns).count 40 = ns.length + 1
    rw [List.count_append, List.count_cons_self, tx_ups N ns, List.count_replicate]
    simp
theorem stR_len : ∀ (c : List Nat) (k : Nat), (stR k c).length = c.count 40
  | [], k => rfl
  | x :: c, k => by
    by_cases e : x = 40
    · subst e; rw [stR_up, List.length_cons, stR_len c k, List.count_cons_self]
    · rw [stR_dn k c e, stR_len c (k + 1), List.count_cons_of_ne e]
theorem stR_ok : ∀ (c : List Nat) (k d : Nat), clo d c = true → ∀ (a : Int), a ≤ (k : Int) → stF (k + d) a (stR k c) = true
  | [], k, d, h, a, ha => rfl
  | x :: c, k, d, h, a, ha => by
    by_cases e : x = 40
    · subst e
      rw [clo_up] at h
      rw [stR_up, stF_go (by omega)]
      exact stR_ok c k (d + 1) h _ (Int.le_refl _)
    · by_cases e2 : x = 41
      · subst e2
        cases d with
        | zero => rw [clo_under] at h; cases h
        | succ d =>
          rw [clo_down] at h
          rw [stR_dn k c e]
          have := stR_ok c (k + 1) d h a (by omega)
          rw [show k + 1 + d = k + (d + 1) by omega] at this
          exact this
      · rw [clo_other e e2] at h; cases h
theorem clo_signs : ∀ (c : List Nat) (d : Nat), clo d c = true → ∀ x ∈ c, x = 40 ∨ x = 41
  | [], d, h, x, hx => by cases hx
  | y :: c, d, h, x, hx => by
    by_cases e : y = 40
    · subst e
      rw [clo_up] at h
      rcases List.mem_cons.mp hx with z | z
      · exact .inl z
      · exact clo_signs c _ h x z
    · by_cases e2 : y = 41
      · subst e2
        cases d with
        | zero => rw [clo_under] at h; cases h
        | succ d =>
          rw [clo_down] at h
          rcases List.mem_cons.mp hx with z | z
          · exact .inr z
          · exact clo_signs c _ h x z
      · rw [clo_other e e2] at h; cases h
theorem clo_half {c : List Nat} (h : clo 0 c = true) : c.count 41 = c.count 40 := by
  have h1 := clo_ends h
  have h2 : ∀ l : List Nat, (∀ x ∈ l, x = 40 ∨ x = 41) → l.count 40 + l.count 41 = l.length := by
    intro l
    induction l with
    | nil => intro _; rfl
    | cons x l ih =>
      intro hl
      have := ih fun y hy => hl y (List.mem_cons_of_mem _ hy)
      rcases hl x (List.mem_cons_self ..) with e | e
      · subst e; rw [List.count_cons_self, List.count_cons_of_ne (by decide), List.length_cons]; omega
      · subst e; rw [List.count_cons_self, List.count_cons_of_ne (by decide), List.length_cons]; omega
  have := h2 c (clo_signs c 0 h)
  omega
theorem back_text {c : List Nat} (h : clo 0 c = true) : txF (stR 0 c).length 0 (stR 0 c) = c := by
  rw [stR_len]
  have := tx_st (N := c.count 40) c 0 0 (Nat.le_refl _) (clo_signs c 0 h) (by rw [clo_half h]; omega)
  simpa using this
theorem stF_all : ∀ (ns : List Int) (k : Nat) (a : Int), stF k a ns = true → ∀ (i : Nat) (n : Int), ns[i]? = some n → a ≤ n ∧ n ≤ ((k + i : Nat) : Int)
  | [], k, a, h, i, n, hn => by simp at hn
  | m :: ns, k, a, h, i, n, hn => by
    by_cases hb : m < a ∨ (k : Int) < m
    · rw [stF_bad hb] at h; cases h
    rw [stF_go hb] at h
    cases i with
    | zero =>
      have e : m = n := by simpa using hn
      subst e
      omega
    | succ i =>
      have := stF_all ns (k + 1) m h i n (by simpa using hn)
      omega
theorem stF_in {ns : List Int} (h : stF 0 0 ns = true) (i : Nat) (n : Int) (hn : ns[i]? = some n) : 0 ≤ n ∧ n ≤ (i : Int) := by
  have := stF_all ns 0 0 h i n hn
  omega
noncomputable def sgU (ps : List Pair) (L : Nat) : List Nat := (List.range L).map fun (j : Nat) => if ((j : Int) ∈ ps.map (·.1)) then 40 else 41
theorem sgU_len (ps : List Pair) (L : Nat) : (sgU ps L).length = L := by unfold sgU; simp
theorem sgU_nil (L : Nat) : sgU [] L = List.replicate L 41 := by
  unfold sgU
  refine List.ext_getElem (by simp) fun i h1 h2 => ?_
  simp
theorem sgU_snoc {ps : List Pair} {p : Pair} {L : Nat} (h0 : 0 ≤ p.1) (h1 : p.1 < (L : Int)) : (sgU ps L).set p.1.toNat 40 = sgU (ps ++ [p]) L := by
  unfold sgU
  refine List.ext_getElem (by simp) fun i h2 h3 => ?_
  rw [List.getElem_set]
  simp only [List.getElem_map, List.getElem_range, List.map_append, List.mem_append]
  by_cases e : p.1.toNat = i
  · rw [if_pos e, if_pos]
    exact .inr (by simp; omega)
  · rw [if_neg e]
    have : ¬ (i : Int) ∈ [p].map (·.1) := by simp; omega
    by_cases z : (i : Int) ∈ ps.map (·.1)
    · rw [if_pos z, if_pos (.inl z)]
    · rw [if_neg z, if_neg (fun w => w.elim z this)]
theorem sgU_text {c : List Nat} (h : ∀ x ∈ c, x = 40 ∨ x = 41) : sgU (bwU c c.length) c.length = c := by
  refine List.ext_getElem? fun i => ?_
  by_cases h2 : i < c.length
  case neg => rw [List.getElem?_eq_none (by rw [sgU_len]; omega), List.getElem?_eq_none (by omega)]
  have g : (sgU (bwU c c.length) c.length)[i]? = some (if ((i : Int) ∈ (bwU c c.length).map (·.1)) then 40 else 41) := by
    unfold sgU
    rw [List.getElem?_map, List.getElem?_range h2]
    rfl
  rw [g, List.getElem?_eq_getElem h2]
  congr 1
  have e : c.getD i 0 = c[i] := by rw [List.getD_eq_getElem?_getD, List.getElem?_eq_getElem h2]; rfl
  by_cases z : (i : Int) ∈ (bwU c c.length).map (·.1)
  · rw [if_pos z]
    obtain ⟨p, hp, hq⟩ := List.mem_map.mp z
    obtain ⟨k, hk, h40, rfl⟩ := mem_bwU.mp hp
    have : k = i := by
      have hq : (k : Int) = (i : Int) := hq
      omega
    subst this
    rw [← e, h40]
  · rw [if_neg z]
    rcases h _ (List.getElem_mem h2) with w | w
    · exact absurd (List.mem_map.mpr ⟨((i : Int), mateOf c i), mem_bwU.mpr ⟨i, h2, by rw [e]; exact w, rfl⟩, rfl⟩) z
    · exact w.symm
theorem bwU_in {c : List Nat} {n : Nat} {p : Pair} (h : p ∈ bwU c n) : 0 ≤ p.1 ∧ p.1 < (n : Int) := by
  obtain ⟨k, hk, _, rfl⟩ := mem_bwU.mp h
  show 0 ≤ (k : Int) ∧ (k : Int) < (n : Int)
  omega
end Ck
set_option Elab.async false
set_option linter.all false
set_option maxRecDepth 100000
namespace Ck
open PySem PySem.W PySem.Calls PyProof.Rows
noncomputable def endLook {α : Type} (p q : Program) (loose : List Str) (Xt : Shared → Bool) (Yf : Shared → α) (h0 : Heap) (s : Shared) :=
  ((staticsOk (importedModules p.main.body) h0 s.heap && namesBound p s.heap && gensDone s && laidKept h0 s.heap),
    openSeen q loose (importedModules p.main.body) Xt true s, Yf s)
theorem left_whole {p q : Program} {loose : List Str} {Xt : Shared → Bool} {α : Type} {Yf : Shared → α} {Ya : World → α} {N M m : Nat} {H : Params → Heap} {gs : Array GenState} {dr : Drawn} {tk : Nat} {an : Option Value}
    (o : ∀ w : World, (fencedOpening treeTable p w N).map (fun s => (s.heap, s.gens, s.drawn, s.toks)) = some (H w.params, gs, dr, tk))
    (z : ∀ w : World, ((H w.params).isNs mainGlobals && gs.size == 0, (H w.params).objs.size, (H w.params).nsMap mainGlobals "__annotations__") = (true, m, an))
    (r : ∀ (w : World) (os : OsState), ∃ e, topRun treeTable p w m an M ⟨H w.params, gs, dr, tk, os⟩ (topStub p) = some e ∧ endLook p q loose Xt Yf (H w.params) e = (true, openGood q loose, Ya w))
    (le : M ≤ N) : LeftO p q loose Xt Yf Ya N := by
  intro w
  have ow := o w
  cases hf : fencedOpening treeTable p w N with
  | none => rw [hf] at ow; cases ow
  | some s =>
    rw [hf] at ow
    have os := Option.some.inj ow
    have e1 : s.heap = H w.params := congrArg Prod.fst os
    have e2 : s.gens = gs := congrArg (fun x => x.2.1) os
    have e3 : s.drawn = dr := congrArg (fun x => x.2.2.1) os
    have e4 : s.toks = tk := congrArg (fun x => x.2.2.2) os
    obtain ⟨e, run, look⟩ := r w s.os
    have hs : s = ⟨H w.params, gs, dr, tk, s.os⟩ := by rw [← e1, ← e2, ← e3, ← e4]
    have run' := topRun_mono (N - M) _ _ _ _ run
    rw [Nat.add_sub_cancel' le] at run'
    have zw := z w
    have z1 := congrArg Prod.fst zw
    have z2 := congrArg (fun x => x.2.1) zw
    have z3 := congrArg (fun x => x.2.2) zw
    dsimp only at z1 z2 z3
    have l1 := congrArg Prod.fst look
    have l2 := congrArg Prod.snd look
    have tf : topFrom treeTable p w N s = some e := by
      rw [hs]
      unfold topFrom
      dsimp only
      rw [z1, z2, z3, run']
      unfold endLook at l1
      dsimp only at l1
      dsimp only [Option.bind]
      rw [l1]
    unfold openEnds
    rw [hf, Option.bind_some, tf]
    exact congrArg some l2
section
variable {tb : String → Option Builtin} {p : Program} {w : World} {m : Nat} {an : Option Value} {env : Env} {q : Pos}
noncomputable def lookEnd {β : Type} (tb : String → Option Builtin) (p : Program) (w : World) (m : Nat) (an : Option Value) (q : Pos) (c : Code) (n4 : Nat) (L : Shared → β) (r : Flow × SharedT × Code × Pos) : Flow × Code × Option β :=
  (r.1, r.2.2.1, (topRun tb p w m an n4 r.2.1.abs ⟨doneF .next, c, r.2.2.2, [topFrame q]⟩).map L)
theorem run_whole {β : Type} {L : Shared → β} {b : List Stmt} {c : Code} {n1 n2 n3 n4 : Nat} {S0 Sa : Shared} {Sb : SharedT} {pos0 pos1 : Pos} {z : β} (hc : c = .body b env)
    (h1 : topGo tb p w m an n1 S0 (topStub p) = some (Sa, ⟨denote tb c, c, pos0, [topFrame q]⟩))
    (h2 : segRun tb p w m an 1 n2 Sa (blockOf b env c pos0 [topFrame q]) = some (.next, Sb.abs, c, pos1))
    (h3 : (segRunT tb p w m an 1 n3 Sb (piecesOf b env c pos1 [topFrame q])).map (lookEnd tb p w m an q c n4 L) = some (.next, c, some z)) :
    ∃ e, topRun tb p w m an (n1 + (n2 + (n3 + n4))) S0 (topStub p) = some e ∧ L e = z := by
  cases hr : segRunT tb p w m an 1 n3 Sb (piecesOf b env c pos1 [topFrame q]) with
  | none => rw [hr] at h3; cases h3
  | some x =>
    obtain ⟨f, s, d, ps⟩ := x
    rw [hr] at h3
    have h3 := Option.some.inj h3
    unfold lookEnd at h3
    have a1 : f = .next := congrArg Prod.fst h3
    have a2 : d = c := congrArg (fun x => x.2.1) h3
    have a3 := congrArg (fun x => x.2.2) h3
    dsimp only at a3
    subst a1 a2 hc
    cases ht : topRun tb p w m an n4 s.abs ⟨doneF .next, .body b env, ps, [topFrame q]⟩ with
    | none => rw [ht] at a3; cases a3
    | some e =>
      rw [ht] at a3
      have k := piece_app (rest := []) (segRun_of hr) (piece_nil ht)
      rw [List.append_nil] at k
      exact ⟨e, go_top h1 (piece_block h2 k), Option.some.inj a3⟩
end
end Ck
set_option maxHeartbeats 4000000
namespace Ck
open PySem L2
noncomputable def top (i : Nat) : Stmt := PySem.Challenge.pw_countkin_k25_stairs_and_bows.main.body.getD i (.Pass ⟨0, 0, 0, 0⟩)
structure ClA where
  C_Brackets : Addr
  C_SplitFamily : Addr
  C_Family : Addr
  C_Stairs : Addr
  C_Bows : Addr
  f_Brackets__Family___init__ : Addr
  f_Brackets__SplitFamily___init__ : Addr
  f_Brackets____init__ : Addr
  f_Brackets__is_one : Addr
  f_Brackets__Family_refuse_other : Addr
  f_Stairs__Family___init__ : Addr
  f_Stairs__SplitFamily___init__ : Addr
  f_Stairs____init__ : Addr
  f_Stairs__is_one : Addr
  f_Stairs__Family_refuse_other : Addr
  f_Bows__Family___init__ : Addr
  f_Bows__SplitFamily___init__ : Addr
  f_Bows____init__ : Addr
  f_Bows__is_one : Addr
  f_Bows__Family_refuse_other : Addr
structure ClOk (K : PySem.W.Frag) (mg : Str → Option Value) (ca : ClA) : Prop where
  m_Brackets : mg "Brackets" = some (.ref ca.C_Brackets)
  m_SplitFamily : mg "SplitFamily" = some (.ref ca.C_SplitFamily)
  m_Family : mg "Family" = some (.ref ca.C_Family)
  m_Stairs : mg "Stairs" = some (.ref ca.C_Stairs)
  m_Bows : mg "Bows" = some (.ref ca.C_Bows)
  c_Brackets : Cls K ca.C_Brackets
  c_Stairs : Cls K ca.C_Stairs
  c_Bows : Cls K ca.C_Bows
  mt_Brackets_refuse_other : Meth K ca.C_Brackets "refuse_other" ca.f_Brackets__Family_refuse_other
  mt_Brackets_is_one : Meth K ca.C_Brackets "is_one" ca.f_Brackets__is_one
  mt_Stairs_refuse_other : Meth K ca.C_Stairs "refuse_other" ca.f_Stairs__Family_refuse_other
  mt_Stairs_is_one : Meth K ca.C_Stairs "is_one" ca.f_Stairs__is_one
  mt_Bows_refuse_other : Meth K ca.C_Bows "refuse_other" ca.f_Bows__Family_refuse_other
  mt_Bows_is_one : Meth K ca.C_Bows "is_one" ca.f_Bows__is_one
  mk_Brackets : Mk K ca.C_Brackets ca.f_Brackets____init__
  mk_Stairs : Mk K ca.C_Stairs ca.f_Stairs____init__
  mk_Bows : Mk K ca.C_Bows ca.f_Bows____init__
  cm_SplitFamily___init___Brackets : ClsM K ca.C_SplitFamily "__init__" ca.f_Brackets__SplitFamily___init__
  cm_Family___init___Brackets : ClsM K ca.C_Family "__init__" ca.f_Brackets__Family___init__
  cm_SplitFamily___init___Stairs : ClsM K ca.C_SplitFamily "__init__" ca.f_Stairs__SplitFamily___init__
  cm_Family___init___Stairs : ClsM K ca.C_Family "__init__" ca.f_Stairs__Family___init__
  cm_SplitFamily___init___Bows : ClsM K ca.C_SplitFamily "__init__" ca.f_Bows__SplitFamily___init__
  cm_Family___init___Bows : ClsM K ca.C_Family "__init__" ca.f_Bows__Family___init__
  na_Brackets_word : NoAttr K ca.C_Brackets "word"
  na_Brackets_least : NoAttr K ca.C_Brackets "least"
  na_Stairs_word : NoAttr K ca.C_Stairs "word"
  na_Stairs_least : NoAttr K ca.C_Stairs "least"
  na_Bows_word : NoAttr K ca.C_Bows "word"
  na_Bows_least : NoAttr K ca.C_Bows "least"
noncomputable abbrev s__law_mix : Stmt := top 30
theorem sc__law_mix : FnScope ["_law_cell", "_law_turn", "_law_number"] ["_law_cell", "_law_turn"] (defScope s__law_mix) := ⟨rfl, rfl, rfl, by decide +kernel, rfl, by decide +kernel, by decide +kernel⟩
noncomputable abbrev s__law_draws : Stmt := top 32
theorem sc__law_draws : FnScope ["_law_script", "_law_turn", "_law_many", "_law_cells", "_law_found", "_law_lefts", "_law_k", "_law_at", "_law_number"] ["_law_script", "_law_turn", "_law_many"] (defScope s__law_draws) := ⟨rfl, rfl, rfl, by decide +kernel, rfl, by decide +kernel, by decide +kernel⟩
noncomputable abbrev s__law_text_by : Stmt := top 33
theorem sc__law_text_by : FnScope ["_law_script", "_law_size", "_law_turn", "_law_draws_here", "_law_lean", "_law_signs", "_law_ups", "_law_k", "_law_height", "_law_up"] ["_law_script", "_law_size", "_law_turn"] (defScope s__law_text_by) := ⟨rfl, rfl, rfl, by decide +kernel, rfl, by decide +kernel, by decide +kernel⟩
noncomputable abbrev s__law_cell_at : Stmt := top 28
theorem sc__law_cell_at : FnScope ["_law_script", "_law_k"] ["_law_script", "_law_k"] (defScope s__law_cell_at) := ⟨rfl, rfl, rfl, by decide +kernel, rfl, by decide +kernel, by decide +kernel⟩
noncomputable abbrev s__law_stairs_of : Stmt := top 38
theorem sc__law_stairs_of : FnScope ["_law_text_here"] ["_law_text_here"] (defScope s__law_stairs_of) := ⟨rfl, rfl, rfl, by decide +kernel, rfl, by decide +kernel, by decide +kernel⟩
noncomputable abbrev s_Brackets__Family___init__ : Stmt := inClass (top 13) 0
theorem sc_Brackets__Family___init__ : FnScope ["self", "word", "least"] ["self", "word", "least"] (defScope s_Brackets__Family___init__) := ⟨rfl, rfl, rfl, by decide +kernel, rfl, by decide +kernel, by decide +kernel⟩
noncomputable abbrev s_Brackets__SplitFamily___init__ : Stmt := inClass (top 14) 0
theorem sc_Brackets__SplitFamily___init__ : FnScope ["self", "word"] ["self", "word"] (defScope s_Brackets__SplitFamily___init__) := ⟨rfl, rfl, rfl, by decide +kernel, rfl, by decide +kernel, by decide +kernel⟩
noncomputable abbrev s_Brackets____init__ : Stmt := inClass (top 20) 0
theorem sc_Brackets____init__ : FnScope ["self"] ["self"] (defScope s_Brackets____init__) := ⟨rfl, rfl, rfl, by decide +kernel, rfl, by decide +kernel, by decide +kernel⟩
noncomputable abbrev s_closes : Stmt := top 18
theorem sc_closes : FnScope ["text", "depth", "sign"] ["text"] (defScope s_closes) := ⟨rfl, rfl, rfl, by decide +kernel, rfl, by decide +kernel, by decide +kernel⟩
noncomputable abbrev s_Brackets__is_one : Stmt := inClass (top 20) 2
theorem sc_Brackets__is_one : FnScope ["self", "thing"] ["self", "thing"] (defScope s_Brackets__is_one) := ⟨rfl, rfl, rfl, by decide +kernel, rfl, by decide +kernel, by decide +kernel⟩
noncomputable abbrev s_Brackets__Family_refuse_other : Stmt := inClass (top 13) 7
theorem sc_Brackets__Family_refuse_other : FnScope ["self", "thing"] ["self", "thing"] (defScope s_Brackets__Family_refuse_other) := ⟨rfl, rfl, rfl, by decide +kernel, rfl, by decide +kernel, by decide +kernel⟩
noncomputable abbrev s_brackets_to_stairs : Stmt := top 23
theorem sc_brackets_to_stairs : FnScope ["thing", "found", "closed", "sign"] ["thing"] (defScope s_brackets_to_stairs) := ⟨rfl, rfl, rfl, by decide +kernel, rfl, by decide +kernel, by decide +kernel⟩
noncomputable abbrev s__law_whole : Stmt := top 29
theorem sc__law_whole : FnScope ["_law_found"] ["_law_found"] (defScope s__law_whole) := ⟨rfl, rfl, rfl, by decide +kernel, rfl, by decide +kernel, by decide +kernel⟩
noncomputable abbrev s__law_numbers : Stmt := top 35
theorem sc__law_numbers : FnScope ["_law_found", "_law_due", "_law_k"] ["_law_found", "_law_due"] (defScope s__law_numbers) := ⟨rfl, rfl, rfl, by decide +kernel, rfl, by decide +kernel, by decide +kernel⟩
noncomputable abbrev s__law_text : Stmt := top 40
theorem sc__law_text : FnScope ["_law_found", "_law_due"] ["_law_found", "_law_due"] (defScope s__law_text) := ⟨rfl, rfl, rfl, by decide +kernel, rfl, by decide +kernel, by decide +kernel⟩
noncomputable abbrev s_Stairs__Family___init__ : Stmt := inClass (top 13) 0
theorem sc_Stairs__Family___init__ : FnScope ["self", "word", "least"] ["self", "word", "least"] (defScope s_Stairs__Family___init__) := ⟨rfl, rfl, rfl, by decide +kernel, rfl, by decide +kernel, by decide +kernel⟩
noncomputable abbrev s_Stairs__SplitFamily___init__ : Stmt := inClass (top 14) 0
theorem sc_Stairs__SplitFamily___init__ : FnScope ["self", "word"] ["self", "word"] (defScope s_Stairs__SplitFamily___init__) := ⟨rfl, rfl, rfl, by decide +kernel, rfl, by decide +kernel, by decide +kernel⟩
noncomputable abbrev s_Stairs____init__ : Stmt := inClass (top 21) 0
theorem sc_Stairs____init__ : FnScope ["self"] ["self"] (defScope s_Stairs____init__) := ⟨rfl, rfl, rfl, by decide +kernel, rfl, by decide +kernel, by decide +kernel⟩
noncomputable abbrev s_Stairs__is_one : Stmt := inClass (top 21) 2
theorem sc_Stairs__is_one : FnScope ["self", "thing", "ahead", "place", "number"] ["self", "thing"] (defScope s_Stairs__is_one) := ⟨rfl, rfl, rfl, by decide +kernel, rfl, by decide +kernel, by decide +kernel⟩
noncomputable abbrev s_Stairs__Family_refuse_other : Stmt := inClass (top 13) 7
theorem sc_Stairs__Family_refuse_other : FnScope ["self", "thing"] ["self", "thing"] (defScope s_Stairs__Family_refuse_other) := ⟨rfl, rfl, rfl, by decide +kernel, rfl, by decide +kernel, by decide +kernel⟩
noncomputable abbrev s_stairs_to_brackets : Stmt := top 24
theorem sc_stairs_to_brackets : FnScope ["thing", "signs", "closed", "number"] ["thing"] (defScope s_stairs_to_brackets) := ⟨rfl, rfl, rfl, by decide +kernel, rfl, by decide +kernel, by decide +kernel⟩
noncomputable abbrev s__law_mate : Stmt := top 37
theorem sc__law_mate : FnScope ["_law_text_here", "_law_at", "_law_height", "_law_k"] ["_law_text_here", "_law_at"] (defScope s__law_mate) := ⟨rfl, rfl, rfl, by decide +kernel, rfl, by decide +kernel, by decide +kernel⟩
noncomputable abbrev s__law_bows_of : Stmt := top 39
theorem sc__law_bows_of : FnScope ["_law_text_here"] ["_law_text_here"] (defScope s__law_bows_of) := ⟨rfl, rfl, rfl, by decide +kernel, rfl, by decide +kernel, by decide +kernel⟩
noncomputable abbrev s_brackets_to_bows : Stmt := top 25
theorem sc_brackets_to_bows : FnScope ["thing", "found", "stack", "place", "sign"] ["thing"] (defScope s_brackets_to_bows) := ⟨rfl, rfl, rfl, by decide +kernel, rfl, by decide +kernel, by decide +kernel⟩
noncomputable abbrev s__law_pairs : Stmt := top 36
theorem sc__law_pairs : FnScope ["_law_found", "_law_due", "_law_k"] ["_law_found", "_law_due"] (defScope s__law_pairs) := ⟨rfl, rfl, rfl, by decide +kernel, rfl, by decide +kernel, by decide +kernel⟩
noncomputable abbrev s_Bows__Family___init__ : Stmt := inClass (top 13) 0
theorem sc_Bows__Family___init__ : FnScope ["self", "word", "least"] ["self", "word", "least"] (defScope s_Bows__Family___init__) := ⟨rfl, rfl, rfl, by decide +kernel, rfl, by decide +kernel, by decide +kernel⟩
noncomputable abbrev s_Bows__SplitFamily___init__ : Stmt := inClass (top 14) 0
theorem sc_Bows__SplitFamily___init__ : FnScope ["self", "word"] ["self", "word"] (defScope s_Bows__SplitFamily___init__) := ⟨rfl, rfl, rfl, by decide +kernel, rfl, by decide +kernel, by decide +kernel⟩
noncomputable abbrev s_Bows____init__ : Stmt := inClass (top 16) 0
theorem sc_Bows____init__ : FnScope ["self"] ["self"] (defScope s_Bows____init__) := ⟨rfl, rfl, rfl, by decide +kernel, rfl, by decide +kernel, by decide +kernel⟩
noncomputable abbrev s_each_once : Stmt := top 3
theorem sc_each_once : FnScope ["numbers"] ["numbers"] (defScope s_each_once) := ⟨rfl, rfl, rfl, by decide +kernel, rfl, by decide +kernel, by decide +kernel⟩
noncomputable abbrev s_flat : Stmt := top 2
theorem sc_flat : FnScope ["rows", "found", "row"] ["rows"] (defScope s_flat) := ⟨rfl, rfl, rfl, by decide +kernel, rfl, by decide +kernel, by decide +kernel⟩
noncomputable abbrev s_any_cross : Stmt := top 4
theorem sc_any_cross : FnScope ["pairs", "a", "b", "c", "d"] ["pairs"] (defScope s_any_cross) := ⟨rfl, rfl, rfl, by decide +kernel, rfl, by decide +kernel, by decide +kernel⟩
noncomputable abbrev s_Bows__is_one : Stmt := inClass (top 16) 2
theorem sc_Bows__is_one : FnScope ["self", "thing"] ["self", "thing"] (defScope s_Bows__is_one) := ⟨rfl, rfl, rfl, by decide +kernel, rfl, by decide +kernel, by decide +kernel⟩
noncomputable abbrev s_Bows__Family_refuse_other : Stmt := inClass (top 13) 7
theorem sc_Bows__Family_refuse_other : FnScope ["self", "thing"] ["self", "thing"] (defScope s_Bows__Family_refuse_other) := ⟨rfl, rfl, rfl, by decide +kernel, rfl, by decide +kernel, by decide +kernel⟩
noncomputable abbrev s_bows_to_brackets : Stmt := top 26
theorem sc_bows_to_brackets : FnScope ["thing", "signs", "a", "b"] ["thing"] (defScope s_bows_to_brackets) := ⟨rfl, rfl, rfl, by decide +kernel, rfl, by decide +kernel, by decide +kernel⟩
noncomputable abbrev s__law_stairs_by : Stmt := top 34
theorem sc__law_stairs_by : FnScope ["_law_script", "_law_size", "_law_turn", "_law_row", "_law_low", "_law_k", "_law_number"] ["_law_script", "_law_size", "_law_turn"] (defScope s__law_stairs_by) := ⟨rfl, rfl, rfl, by decide +kernel, rfl, by decide +kernel, by decide +kernel⟩
noncomputable abbrev s__law_closes : Stmt := top 31
theorem sc__law_closes : FnScope ["_law_text_here", "_law_height", "_law_sign"] ["_law_text_here"] (defScope s__law_closes) := ⟨rfl, rfl, rfl, by decide +kernel, rfl, by decide +kernel, by decide +kernel⟩
noncomputable abbrev s_law : Stmt := top 41
theorem sc_law : FnScope ["_law_script", "_law_text_here", "_law_stairs", "_law_found", "_law_handed", "_law_bows", "_law_row"] ["_law_script"] (defScope s_law) := ⟨rfl, rfl, rfl, by decide +kernel, rfl, by decide +kernel, by decide +kernel⟩
noncomputable def sp__law_mix (_ : PySem.W.Frag) (_ : ClA) : Sp := fun vs H Q _ => ∃ c t : Int, vs = [.int c, .int t] ∧ 0 ≤ t ∧ t ≤ 100000 ∧ ∀ m : Int, 0 ≤ m → m < 2147483629 → Q (.int m) H
noncomputable def sp__law_draws (K : PySem.W.Frag) (_ : ClA) : Sp := fun vs H Q _ => ∃ (a : Addr) (ns : List Int) (t m : Int), vs = [.ref a, .int t, .int m] ∧ SqL K H a (ns.map V.int) ∧ ns.length ≤ 63 ∧ 0 ≤ t ∧ t ≤ 1000 ∧ 0 ≤ m ∧ m ≤ 1000 ∧
  ∀ (p : Addr) (xs : List Int) (H' : Hp), Same H H' → H p = none → H' p = some (.lst (xs.map V.int)) → xs.length = m.toNat → (∀ x ∈ xs, 0 ≤ x ∧ x < 2147483587) → Q (.ref p) H'
noncomputable def sp__law_text_by (K : PySem.W.Frag) (_ : ClA) : Sp := fun vs H Q _ => ∃ (a : Addr) (ns : List Int) (n t : Int), vs = [.ref a, .int n, .int t] ∧ SqL K H a (ns.map V.int) ∧ ns.length ≤ 63 ∧ 0 ≤ n ∧ n ≤ 40 ∧ 0 ≤ t ∧ t ≤ 1000 ∧
  ∀ (x : Str) (H' : Hp), Same H H' → clo 0 x.cps.toList = true → x.length = 2 * n.toNat → Q (.str x) H'
noncomputable def sp__law_cell_at (K : PySem.W.Frag) (_ : ClA) : Sp := fun vs H Q _ => ∃ (a : Addr) (ns : List Int) (k : Int), vs = [.ref a, .int k] ∧ SqL K H a (ns.map V.int) ∧ 0 ≤ k ∧ Q (.int (ns.getD k.toNat 0)) H
noncomputable def sp__law_stairs_of (K : PySem.W.Frag) (_ : ClA) : Sp := fun vs H Q _ => ∃ (t : Str), vs = [.str t] ∧ t.length ≤ 80 ∧ (∀ x ∈ t.cps.toList, x = 40 ∨ x = 41) ∧ ∀ (p : Addr) (H' : Hp), Same H H' → H p = none → H' p = some (.lst ((stR 0 t.cps.toList).map V.int)) → Q (.ref p) H'
noncomputable def sp_Brackets__Family___init__ (_ : PySem.W.Frag) (ca : ClA) : Sp := fun vs H Q _ => ∃ (x dx : Addr) (w : Str) (l : Int), vs = [.ref x, .str w, .int l] ∧ H x = some (.ins ca.C_Brackets dx []) ∧ ∀ (fs : List (Str × V)) (H' : Hp), H' = upd H x (.ins ca.C_Brackets dx fs) → Flds fs w l → Q .non H'
noncomputable def sp_Brackets__SplitFamily___init__ (_ : PySem.W.Frag) (ca : ClA) : Sp := fun vs H Q _ => ∃ (x dx : Addr) (w : Str), vs = [.ref x, .str w] ∧ H x = some (.ins ca.C_Brackets dx []) ∧ ∀ (fs : List (Str × V)) (H' : Hp), H' = upd H x (.ins ca.C_Brackets dx fs) → Flds fs w 0 → Q .non H'
noncomputable def sp_Brackets____init__ (_ : PySem.W.Frag) (ca : ClA) : Sp := fun vs H Q _ => ∃ x dx, vs = [.ref x] ∧ H x = some (.ins ca.C_Brackets dx []) ∧ ∀ (fs : List (Str × V)) (H' : Hp), H' = upd H x (.ins ca.C_Brackets dx fs) → Flds fs "brackets" 0 → Q .non H'
noncomputable def sp_closes (_ : PySem.W.Frag) (_ : ClA) : Sp := fun vs H Q _ => ∃ x : Str, vs = [.str x] ∧ Q (.bl (clo 0 x.cps.toList)) H
noncomputable def sp_Brackets__is_one (_ : PySem.W.Frag) (_ : ClA) : Sp := fun vs H Q _ => ∃ (x : Addr) (t : Str), vs = [.ref x, .str t] ∧ Q (.bl (clo 0 t.cps.toList)) H
noncomputable def sp_Brackets__Family_refuse_other (K : PySem.W.Frag) (ca : ClA) : Sp := fun vs H Q _ => ∃ (x dx : Addr) (fs : List (Str × V)) (t : Str), vs = [.ref x, .str t] ∧ H x = some (.ins ca.C_Brackets dx fs) ∧ fs.lookup ("is_one" : Str) = none ∧ clo 0 t.cps.toList = true ∧ ∀ H', Same H H' → Q .non H'
noncomputable def sp_brackets_to_stairs (K : PySem.W.Frag) (ca : ClA) : Sp := fun vs H Q _ => ∃ (t : Str), vs = [.str t] ∧ clo 0 t.cps.toList = true ∧ t.length ≤ 1000 ∧ ∀ (p : Addr) (H' : Hp), Same H H' → H p = none → H' p = some (.lst ((stR 0 t.cps.toList).map V.int)) → Q (.ref p) H'
noncomputable def sp__law_whole (_ : PySem.W.Frag) (_ : ClA) : Sp := fun vs H Q _ => ∃ n : Int, vs = [.int n] ∧ Q (.bl true) H
noncomputable def sp__law_numbers (K : PySem.W.Frag) (_ : ClA) : Sp := fun vs H Q _ => ∃ (p r : Addr) (ns : List Int), vs = [.ref p, .ref r] ∧ H p = some (.lst (ns.map V.int)) ∧ H r = some (.lst (ns.map V.int)) ∧ ns.length ≤ 1000 ∧ Q (.bl true) H
noncomputable def sp__law_text (K : PySem.W.Frag) (_ : ClA) : Sp := fun vs H Q _ => ∃ (t : Str), vs = [.str t, .str t] ∧ Q (.bl true) H
noncomputable def sp_Stairs__Family___init__ (_ : PySem.W.Frag) (ca : ClA) : Sp := fun vs H Q _ => ∃ (x dx : Addr) (w : Str) (l : Int), vs = [.ref x, .str w, .int l] ∧ H x = some (.ins ca.C_Stairs dx []) ∧ ∀ (fs : List (Str × V)) (H' : Hp), H' = upd H x (.ins ca.C_Stairs dx fs) → Flds fs w l → Q .non H'
noncomputable def sp_Stairs__SplitFamily___init__ (_ : PySem.W.Frag) (ca : ClA) : Sp := fun vs H Q _ => ∃ (x dx : Addr) (w : Str), vs = [.ref x, .str w] ∧ H x = some (.ins ca.C_Stairs dx []) ∧ ∀ (fs : List (Str × V)) (H' : Hp), H' = upd H x (.ins ca.C_Stairs dx fs) → Flds fs w 0 → Q .non H'
noncomputable def sp_Stairs____init__ (_ : PySem.W.Frag) (ca : ClA) : Sp := fun vs H Q _ => ∃ x dx, vs = [.ref x] ∧ H x = some (.ins ca.C_Stairs dx []) ∧ ∀ (fs : List (Str × V)) (H' : Hp), H' = upd H x (.ins ca.C_Stairs dx fs) → Flds fs "stairs" 0 → Q .non H'
noncomputable def sp_Stairs__is_one (K : PySem.W.Frag) (_ : ClA) : Sp := fun vs H Q _ => ∃ (x l : Addr) (ns : List Int), vs = [.ref x, .ref l] ∧ SqL K H l (ns.map V.int) ∧ ∀ H', Same H H' → Q (.bl (stF 0 0 ns)) H'
noncomputable def sp_Stairs__Family_refuse_other (K : PySem.W.Frag) (ca : ClA) : Sp := fun vs H Q _ => ∃ (x dx : Addr) (fs : List (Str × V)) (l : Addr) (ns : List Int), vs = [.ref x, .ref l] ∧ H x = some (.ins ca.C_Stairs dx fs) ∧ fs.lookup ("is_one" : Str) = none ∧ SqL K H l (ns.map V.int) ∧ stF 0 0 ns = true ∧ ∀ H', Same H H' → Q .non H'
noncomputable def sp_stairs_to_brackets (K : PySem.W.Frag) (ca : ClA) : Sp := fun vs H Q _ => ∃ (l : Addr) (ns : List Int), vs = [.ref l] ∧ SqL K H l (ns.map V.int) ∧ stF 0 0 ns = true ∧ ns.length ≤ 40 ∧ ∀ (t : Str) (H' : Hp), Same H H' → t.cps.toList = txF ns.length 0 ns → Q (.str t) H'
noncomputable def sp__law_mate (K : PySem.W.Frag) (_ : ClA) : Sp := fun vs H Q _ => ∃ (t : Str) (k : Nat), vs = [.str t, .int (k : Int)] ∧ t.length ≤ 80 ∧ k < t.length ∧ Q (.int (mateOf t.cps.toList k)) H
noncomputable def sp__law_bows_of (K : PySem.W.Frag) (_ : ClA) : Sp := fun vs H Q _ => ∃ (t : Str), vs = [.str t] ∧ t.length ≤ 80 ∧ ∀ (p : Addr) (H' : Hp), Same H H' → H p = none → PLs H' p (bwU t.cps.toList t.length) → Q (.ref p) H'
noncomputable def sp_brackets_to_bows (K : PySem.W.Frag) (ca : ClA) : Sp := fun vs H Q _ => ∃ (t : Str), vs = [.str t] ∧ clo 0 t.cps.toList = true ∧ t.length ≤ 80 ∧ ∀ (p : Addr) (H' : Hp), Same H H' → H p = none → PLs H' p (bwU t.cps.toList t.length) → isBows (bwU t.cps.toList t.length) = true → Q (.ref p) H'
noncomputable def sp__law_pairs (K : PySem.W.Frag) (_ : ClA) : Sp := fun vs H Q _ => ∃ (p r : Addr) (ps : List Pair), vs = [.ref p, .ref r] ∧ PLs H p ps ∧ PLs H r ps ∧ ps.length ≤ 1000 ∧ Q (.bl true) H
noncomputable def sp_Bows__Family___init__ (_ : PySem.W.Frag) (ca : ClA) : Sp := fun vs H Q _ => ∃ (x dx : Addr) (w : Str) (l : Int), vs = [.ref x, .str w, .int l] ∧ H x = some (.ins ca.C_Bows dx []) ∧ ∀ (fs : List (Str × V)) (H' : Hp), H' = upd H x (.ins ca.C_Bows dx fs) → Flds fs w l → Q .non H'
noncomputable def sp_Bows__SplitFamily___init__ (_ : PySem.W.Frag) (ca : ClA) : Sp := fun vs H Q _ => ∃ (x dx : Addr) (w : Str), vs = [.ref x, .str w] ∧ H x = some (.ins ca.C_Bows dx []) ∧ ∀ (fs : List (Str × V)) (H' : Hp), H' = upd H x (.ins ca.C_Bows dx fs) → Flds fs w 0 → Q .non H'
noncomputable def sp_Bows____init__ (_ : PySem.W.Frag) (ca : ClA) : Sp := fun vs H Q _ => ∃ x dx, vs = [.ref x] ∧ H x = some (.ins ca.C_Bows dx []) ∧ ∀ (fs : List (Str × V)) (H' : Hp), H' = upd H x (.ins ca.C_Bows dx fs) → Flds fs "bows" 0 → Q .non H'
noncomputable def sp_each_once (K : PySem.W.Frag) (_ : ClA) : Sp := fun vs H Q _ => ∃ (l : Addr) (ns : List Int), vs = [.ref l] ∧ H l = some (.lst (ns.map V.int)) ∧ ns.length < 128 ∧ ∀ H', Same H H' → Q (.bl (eachB ns)) H'
noncomputable def sp_flat (K : PySem.W.Frag) (_ : ClA) : Sp := fun vs H Q _ => ∃ (l : Addr) (ps : List Pair), vs = [.ref l] ∧ PLs H l ps ∧ ps.length ≤ 1000 ∧ ∀ (p : Addr) (H' : Hp), Same H H' → H p = none → H' p = some (.lst ((flatP ps).map V.int)) → Q (.ref p) H'
noncomputable def sp_any_cross (K : PySem.W.Frag) (_ : ClA) : Sp := fun vs H Q _ => ∃ (l : Addr) (ps : List Pair), vs = [.ref l] ∧ PLs H l ps ∧ Q (.bl (crossB ps)) H
noncomputable def sp_Bows__is_one (K : PySem.W.Frag) (_ : ClA) : Sp := fun vs H Q _ => ∃ (x l : Addr) (ps : List Pair), vs = [.ref x, .ref l] ∧ PLs H l ps ∧ ps.length ≤ 60 ∧ ∀ H', Same H H' → Q (.bl (isBows ps)) H'
noncomputable def sp_Bows__Family_refuse_other (K : PySem.W.Frag) (ca : ClA) : Sp := fun vs H Q _ => ∃ (x dx : Addr) (fs : List (Str × V)) (l : Addr) (ps : List Pair), vs = [.ref x, .ref l] ∧ H x = some (.ins ca.C_Bows dx fs) ∧ fs.lookup ("is_one" : Str) = none ∧ PLs H l ps ∧ ps.length ≤ 60 ∧ isBows ps = true ∧ ∀ H', Same H H' → Q .non H'
noncomputable def sp_bows_to_brackets (K : PySem.W.Frag) (ca : ClA) : Sp := fun vs H Q _ => ∃ (l : Addr) (ps : List Pair), vs = [.ref l] ∧ PLs H l ps ∧ ps.length ≤ 40 ∧ isBows ps = true ∧ (∀ p ∈ ps, 0 ≤ p.1 ∧ p.1 < 2 * (ps.length : Int)) ∧ ∀ (t : Str) (H' : Hp), Same H H' → t.cps.toList = sgU ps (2 * ps.length) → Q (.str t) H'
noncomputable def sp__law_stairs_by (K : PySem.W.Frag) (_ : ClA) : Sp := fun vs H Q _ => ∃ (a : Addr) (ns : List Int) (n : Nat) (t : Int), vs = [.ref a, .int n, .int t] ∧ SqL K H a (ns.map V.int) ∧ ns.length ≤ 63 ∧ n ≤ 40 ∧ 0 ≤ t ∧ t ≤ 900 ∧
  ∀ (p : Addr) (rs : List Int) (b : Int) (H' : Hp), Same H H' → H p = none → H' p = some (.lst (rs.map V.int)) → rs.length = n → St rs b → Q (.ref p) H'
noncomputable def sp__law_closes (_ : PySem.W.Frag) (_ : ClA) : Sp := fun vs H Q _ => ∃ x : Str, vs = [.str x] ∧ Q (.bl (clo 0 x.cps.toList)) H
noncomputable def sp_law (K : PySem.W.Frag) (_ : ClA) : Sp := fun vs H Q _ => ∃ (a : Addr) (ns : List Int), vs = [.ref a] ∧ SqL K H a (ns.map V.int) ∧ ns.length ≤ 63 ∧ ∀ H', Q (.bl true) H'
section
variable {P : Program} {w : World} {K : PySem.W.Frag} {mg : Str → Option Value} {base : Heap}
theorem ok__law_mix {ca : ClA} (CA : ClOk K mg ca) {f : Addr} {fd : FuncData} (F : Fun K "_law_mix" "_law_mix" s__law_mix f fd) : FnOk P w K mg base CX0 1 f fd ["_law_cell", "_law_turn"] (sp__law_mix K ca) := by
  refine F.ok sc__law_mix (fun vs H Q E h => ?_) (fun cdv A outer s H vs Q E hr h => ?_)
  · obtain ⟨c, t, rfl, h0, h1, q⟩ := h
    rfl
  obtain ⟨c, t, rfl, h0, h1, q⟩ := h
  refine ⟨_, pss_cons (ps_set (i := 2) sc__law_mix.nd rfl (Or.inl rfl) (pe_op op_mod (pe_op op_mul (pe_op op_add (pe_op op_add (pe_op op_mod (pv 0) pe_int) (pe_op op_mul (pe_op op_mul (pv 1) (pv 1)) pe_int)) pe_int) pe_int) pe_int))
    (pss_one (ps_ret (pe_op op_mod (pe_op op_add (pe_op op_mul (pv 2) (pv 2)) (pe_op op_mul pe_int (pv 1))) pe_int))), ?_⟩
  refine ⟨_, rfl, _, _, rfl, rfl, pm (by decide), _, rfl, _, rfl, _, _, rfl, rfl, .inl ⟨by omega, by omega⟩, _, _, rfl, rfl, .inr ⟨by decide, by decide⟩, _, _, rfl, rfl, _, _, rfl, rfl, _, _, rfl, rfl, .inr ⟨by decide, by decide⟩, _, _, rfl, rfl, pm (by decide), ?_⟩
  have b0 := Int.emod_nonneg ((c % 2147483647 + t * t * 7919 + 104729) * 48271) (show (2147483647 : Int) ≠ 0 by decide)
  have b1 := Int.emod_lt_of_pos ((c % 2147483647 + t * t * 7919 + 104729) * 48271) (show (0 : Int) < 2147483647 by decide)
  try dsimp only
  generalize (c % 2147483647 + t * t * 7919 + 104729) * 48271 % 2147483647 = n at *
  exact ⟨_, rfl, _, rfl, _, _, rfl, rfl, .inl ⟨by omega, by omega⟩, _, rfl, _, _, rfl, rfl, .inl ⟨by decide, by decide⟩, _, _, rfl, rfl, _, _, rfl, rfl, pm (by decide), q _ (Int.emod_nonneg _ (by decide)) (Int.emod_lt_of_pos _ (by decide))⟩
theorem ok__law_draws {ca : ClA} (CA : ClOk K mg ca) {f : Addr} {fd : FuncData} (F : Fun K "_law_draws" "_law_draws" s__law_draws f fd) {f0 : Addr} {fd0 : FuncData} (d__law_mix : Def P w K mg base "_law_mix" ["_law_cell", "_law_turn"] 1 (sp__law_mix K ca) f0 fd0) (m_range : mg "range" = none) (m_len : mg "len" = none) : FnOk P w K mg base CX0 2 f fd ["_law_script", "_law_turn", "_law_many"] (sp__law_draws K ca) := by
  refine F.ok sc__law_draws (fun vs H Q E h => ?_) (fun cdv A outer s H vs Q E hr h => ?_)
  · obtain ⟨a, ns, t, m, rfl, hS, h63, t0, t1, m0, m1, q⟩ := h
    rfl
  obtain ⟨a, ns, t, m, rfl, hS, h63, t0, t1, m0, m1, q⟩ := h
  refine ⟨_, pss_cons (ps_set (i := 3) sc__law_draws.nd rfl (Or.inl rfl) (pe_op op_cat (pe_slice sl_list (pv 0) po_none (po_some pe_int)) (pe_lst (pa_cons (pv 1) pa_nil))))
    (pss_cons (ps_set (i := 4) sc__law_draws.nd rfl (Or.inl rfl) (pe_lst pa_nil))
    (pss_cons (ps_if (pt_cmpR op_eq (pe_op op_mod (pe_op op_fdivL (pe_ix ix_list (pv 3) pe_int (fun _ _ => rfl)) pe_int) pe_int) pe_int (nomark _)) (pss_cons (ps_setComp (i := 5) sc__law_draws.nd rfl (Or.inl rfl) rfl rfl (pi_list (pv 3)) rfl rfl rfl rfl (N := ["_law_cell"]) (.own .nil) (fun _ _ _ _ _ _ => (pg_name (i := 0) (by show List.Nodup (["_law_cell"] : List Str); decide +kernel) rfl (Or.inl rfl))) (fun _ _ _ _ _ _ => pts_nil) (fun _ _ _ _ _ _ => (pe_op op_fdivL (pv 0) pe_int)))
    (pss_cons (ps_for PassesOwn.never rfl (pi_range1 rfl m_range (pa_cons (pe_op op_add (pv 1) (pv 2)) pa_nil)) (pg_name (i := 6) sc__law_draws.nd rfl (Or.inl rfl)) (pss_cons (ps_set (i := 7) sc__law_draws.nd rfl (Or.inl rfl) (pe_op op_mod (pv 6) (pe_callB call_len_seq rfl m_len bb_len (pa_cons (pv 5) pa_nil))))
    (pss_cons (ps_expr (pe_bm PySem.F.plainAttrs_list PySem.F.slot_list_append PySem.F.type_list_append mt_append (pv 4) (pa_cons (pe_op op_mod (pe_ix ix_list (pv 5) (pv 7) (fun _ _ => rfl)) pe_int) pa_nil)))
    (pss_one (ps_asg (pe_op op_fdivL (pe_ix ix_list (pv 5) (pv 7) (fun _ _ => rfl)) pe_int) (pg_sub (pv 5) (pv 7) set_list))))))
    (pss_one (ps_ret (pe_slice sl_list (pv 4) (po_some (pv 1)) po_none))))) pss_nil)
    (pss_cons (ps_for PassesOwn.never rfl (pi_range1 rfl m_range (pa_cons (pv 2) pa_nil)) (pg_name (i := 6) sc__law_draws.nd rfl (Or.inl rfl)) (pss_cons (ps_set (i := 8) sc__law_draws.nd rfl (Or.inl rfl) (pcall d__law_mix hr (pa_cons (pe_ix ix_list (pv 3) (pe_op op_mod (pv 6) (pe_callB call_len_seq rfl m_len bb_len (pa_cons (pv 3) pa_nil))) (fun _ _ => rfl)) (pa_cons (pe_op op_add (pv 6) (pv 1)) pa_nil))))
    (pss_one (ps_expr (pe_bm PySem.F.plainAttrs_list PySem.F.slot_list_append PySem.F.type_list_append mt_append (pv 4) (pa_cons (pe_op op_mod (pe_op op_add (pe_op op_mul (pv 8) (pv 8)) (pe_op op_mul pe_int (pv 6))) pe_int) pa_nil))))))
    (pss_one (ps_ret (pv 4)))))), ?_⟩
  have M : ∀ x : Int, 0 ≤ x % 2147483587 ∧ x % 2147483587 < 2147483587 := fun x => ⟨Int.emod_nonneg x (by decide), Int.emod_lt_of_pos x (by decide)⟩
  refine ⟨_, rfl, _, rfl, a, _, rfl, hS, fun p1 hp1 => ⟨_, rfl, (by show 1 ≤ sizeLine; decide), fun p2 hp2 => ?_⟩⟩
  have n12 : p1 ≠ p2 := ne_of_none upd_same hp2
  have s1 := Same.new (Same.refl H) hp1 (.lst (cutV (ns.map V.int) none (some 63)))
  have s2 := Same.new s1 hp2 (.lst [.int t])
  have lc : (cutI ns none (some 63)).length ≤ 63 := Nat.le_trans (cutI_length _ _ _) h63
  refine ⟨p1, p2, _, _, rfl, rfl, (upd_ne n12).trans upd_same, upd_same, ?_, fun pc hpc => ?_⟩
  · rw [cutV_map, List.length_map]; exact sz (by simp; omega)
  have s3 := Same.new s2 hpc (.lst (cutV (ns.map V.int) none (some 63) ++ [.int t]))
  have ecs : cutV (ns.map V.int) none (some 63) ++ [.int t] = (cutI ns none (some 63) ++ [t]).map V.int := by rw [cutV_map, List.map_append]; rfl
  have lcs : 1 ≤ (cutI ns none (some 63) ++ [t]).length ∧ (cutI ns none (some 63) ++ [t]).length ≤ 64 := by rw [List.length_append]; constructor <;> simp <;> omega
  rw [ecs] at s3 ⊢
  generalize hH3 : upd (upd (upd H p1 (.lst (cutV (ns.map V.int) none (some 63)))) p2 (.lst [.int t])) pc (.lst ((cutI ns none (some 63) ++ [t]).map V.int)) = H3 at s3 ⊢
  have hc3 : H3 pc = some (.lst ((cutI ns none (some 63) ++ [t]).map V.int)) := by rw [← hH3]; exact upd_same
  generalize cutI ns none (some 63) ++ [t] = cs at hc3 lcs ⊢
  refine ⟨Nat.zero_le _, fun pf hpf => ?_⟩
  have s4 := Same.new s3 hpf (.lst [])
  have fpf : H pf = none := s3.free hpf
  have ncf : pc ≠ pf := ne_of_none hc3 hpf
  have hc4 : upd H3 pf (.lst []) pc = some (.lst (cs.map V.int)) := (upd_ne ncf).trans hc3
  have hf4 : upd H3 pf (.lst []) pf = some (.lst (([] : List Int).map V.int)) := upd_same
  generalize upd H3 pf (.lst []) = H4 at s4 hc4 hf4 ⊢
  have at0 := atI_int (ns := cs) (i := 0) (by decide) (by omega)
  have lm : (cs.map V.int).length = cs.length := List.length_map _
  refine ⟨_, rfl, pc, _, _, _, rfl, rfl, SqL.of hc4, at0, _, _, rfl, rfl, ⟨by decide, by decide +kernel⟩, _, _, rfl, rfl, pm (by decide), rfl, _, rfl, ite2 (fun _ => ?_) (fun _ => ?_)⟩
  · refine ⟨_, rfl, pc, rfl, ⟨_, SqL.of hc4⟩, fun D hD => comp_list (fun v => match v with | .int c => .int (c / 100000) | v => v) (by rw [lm]; exact sz (by omega)) (SqL.of hc4) hD (fun i x H' R R0 hx hb hR => ?_) ?_⟩
    · obtain ⟨c, rfl⟩ := get_int hx
      exact ⟨Ext.set rfl, ttN (iteT ⟨_, rfl, _, _, rfl, rfl, ⟨by decide, by decide +kernel⟩, hR⟩)⟩
    · have fD : H D = none := s4.free hD
      have nfD : pf ≠ D := ne_of_none hf4 hD
      have el : (cs.map V.int).map (fun v => match v with | .int c => V.int (c / 100000) | v => v) = (cs.map (· / 100000)).map V.int := by rw [List.map_map, List.map_map]; rfl
      rw [el]
      refine ⟨_, rfl, _, rfl, _, _, rfl, rfl, _, rfl, by omega, by omega, for_range (lo := 0) (n := (t + m).toNat) (fun i σ H' => ∃ (o1 o2 o3 : Option V) (ls fs : List Int), σ = [some (.ref a), some (.int t), some (.int m), some (.ref pc), some (.ref pf), some (.ref D), o1, o2, o3] ∧ Same H H' ∧ H' D = some (.lst (ls.map V.int)) ∧ ls.length = cs.length ∧ H' pf = some (.lst (fs.map V.int)) ∧ fs.length = i ∧ ∀ x ∈ fs, 0 ≤ x ∧ x < 2147483587)
        ⟨_, _, _, _, [], rfl, Same.new s4 hD _, upd_same, by simp, (upd_ne nfD).trans hf4, rfl, by simp⟩ ?_ ?_⟩
      · rintro i σ H5 hi ⟨o1, o2, o3, ls, fs, rfl, sm, hl, ll, hf, lf, bf⟩
        have lml : (ls.map V.int).length = ls.length := List.length_map _
        have pos : (0 : Int) < (((ls.map V.int).length : Nat) : Int) := by rw [lml]; omega
        have k0 := Int.emod_nonneg ((0 : Int) + (i : Int)) (show (((ls.map V.int).length : Nat) : Int) ≠ 0 by omega)
        have k1 := Int.emod_lt_of_pos ((0 : Int) + (i : Int)) pos
        refine ⟨_, rfl, _, rfl, D, _, rfl, .inl (SqL.of hl), _, _, rfl, rfl, pos, ?_⟩
        try dsimp only
        generalize ((0 : Int) + (i : Int)) % (((ls.map V.int).length : Nat) : Int) = k at k0 k1 ⊢
        rw [lml] at k1
        have atk := atI_int (ns := ls) (i := k) k0 k1
        refine ⟨_, rfl, .inl ⟨rfl, _, SqL.of hf⟩, _, rfl, _, rfl, D, _, _, _, rfl, rfl, SqL.of hl, atk, _, _, rfl, rfl, pm (by decide), pf, _, _, rfl, rfl, hf, by rw [List.length_map]; exact sz' (by omega), ?_⟩
        have hl6 : upd H5 pf (.lst (fs.map V.int ++ [.int (ls.getD k.toNat 0 % 2147483587)])) D = some (.lst (ls.map V.int)) := (upd_ne (Ne.symm nfD)).trans hl
        refine ⟨_, rfl, _, rfl, D, _, _, _, rfl, rfl, SqL.of hl6, atk, _, _, rfl, rfl, ⟨by decide, by decide +kernel⟩, _, rfl, _, rfl, D, _, _, _, rfl, rfl, hl6, ixN_nat k0 (by rw [lml]; exact k1), ?_⟩
        refine ⟨_, _, _, ls.set k.toNat (ls.getD k.toNat 0 / 2147483587), fs ++ [ls.getD k.toNat 0 % 2147483587], rfl, (sm.upd fpf _).upd fD _, ?_, by simpa using ll, ?_, by simp [lf], ?_⟩
        · rw [upd_same, List.map_set]
        · rw [upd_ne nfD, upd_same, List.map_append]; rfl
        · intro x hx
          rcases List.mem_append.mp hx with z | z
          · exact bf x z
          · have : x = ls.getD k.toNat 0 % 2147483587 := by simpa using z
            rw [this]; exact M _
      · rintro σ H5 ⟨o1, o2, o3, ls, fs, rfl, sm, hl, ll, hf, lf, bf⟩
        refine ⟨_, rfl, _, rfl, _, rfl, pf, _, rfl, SqL.of hf, fun pr hpr => ?_⟩
        rw [cutV_map, cutI_from fs t0]
        refine q pr (fs.drop t.toNat) _ (Same.new sm hpr _) (sm.free hpr) upd_same ?_ fun x hx => bf x (List.mem_of_mem_drop hx)
        rw [List.length_drop, lf]; omega
  · refine ⟨_, rfl, _, rfl, by omega, by omega, for_range (lo := 0) (n := m.toNat) (fun i σ H' => ∃ (o1 o2 o3 o4 : Option V) (fs : List Int), σ = [some (.ref a), some (.int t), some (.int m), some (.ref pc), some (.ref pf), o1, o2, o3, o4] ∧ Same H H' ∧ H' pc = some (.lst (cs.map V.int)) ∧ H' pf = some (.lst (fs.map V.int)) ∧ fs.length = i ∧ ∀ x ∈ fs, 0 ≤ x ∧ x < 2147483587)
      ⟨_, _, _, _, [], rfl, s4, hc4, hf4, rfl, by simp⟩ ?_ ?_⟩
    · rintro i σ H5 hi ⟨o1, o2, o3, o4, fs, rfl, sm, hc, hf, lf, bf⟩
      have pos : (0 : Int) < (((cs.map V.int).length : Nat) : Int) := by rw [lm]; omega
      have k0 := Int.emod_nonneg ((0 : Int) + (i : Int)) (show (((cs.map V.int).length : Nat) : Int) ≠ 0 by omega)
      have k1 := Int.emod_lt_of_pos ((0 : Int) + (i : Int)) pos
      have atk := atI_int (ns := cs) (i := ((0 : Int) + (i : Int)) % (((cs.map V.int).length : Nat) : Int)) k0 (by rw [← lm]; exact k1)
      refine ⟨_, rfl, _, rfl, _, rfl, pc, _, rfl, .inl (SqL.of hc), _, _, rfl, rfl, pos, pc, _, _, _, rfl, rfl, SqL.of hc, atk, _, rfl, _, rfl, _, _, rfl, rfl, _, _, rfl, by omega, by omega, fun x x0 x1 => ?_⟩
      refine ⟨_, rfl, .inl ⟨rfl, _, SqL.of hf⟩, _, rfl, _, rfl, _, _, rfl, rfl, .inl ⟨by omega, by omega⟩, _, rfl, _, _, rfl, rfl, .inl ⟨by decide, by decide⟩, _, _, rfl, rfl, _, _, rfl, rfl, pm (by decide), pf, _, _, rfl, rfl, hf, by rw [List.length_map]; exact sz' (by omega), ?_⟩
      refine ⟨_, _, _, _, fs ++ [(x * x + 7 * ((0 : Int) + (i : Int))) % 2147483587], rfl, sm.upd fpf _, (upd_ne ncf).trans hc, ?_, by simp [lf], ?_⟩
      · rw [upd_same, List.map_append]; rfl
      · intro y hy
        rcases List.mem_append.mp hy with z | z
        · exact bf y z
        · have : y = (x * x + 7 * ((0 : Int) + (i : Int))) % 2147483587 := by simpa using z
          rw [this]; exact M _
    · rintro σ H5 ⟨o1, o2, o3, o4, fs, rfl, sm, hc, hf, lf, bf⟩
      exact ⟨_, rfl, q pf fs H5 sm fpf hf lf bf⟩
theorem ok__law_text_by {ca : ClA} (CA : ClOk K mg ca) {f : Addr} {fd : FuncData} (F : Fun K "_law_text_by" "_law_text_by" s__law_text_by f fd) {f0 : Addr} {fd0 : FuncData} (d__law_draws : Def P w K mg base "_law_draws" ["_law_script", "_law_turn", "_law_many"] 2 (sp__law_draws K ca) f0 fd0) (m_range : mg "range" = none) : FnOk P w K mg base CX0 3 f fd ["_law_script", "_law_size", "_law_turn"] (sp__law_text_by K ca) := by
  refine F.ok sc__law_text_by (fun vs H Q E h => ?_) (fun cdv A outer s H vs Q E hr h => ?_)
  · obtain ⟨a, ns, n, t, rfl, hS, h63, n0, n1, t0, t1, q⟩ := h
    rfl
  obtain ⟨a, ns, n, t, rfl, hS, h63, n0, n1, t0, t1, q⟩ := h
  refine ⟨_, pss_cons (ps_set (i := 3) sc__law_text_by.nd rfl (Or.inl rfl) (pcall d__law_draws hr (pa_cons (pv 0) (pa_cons (pv 2) (pa_cons pe_int pa_nil)))))
    (pss_cons (ps_set (i := 4) sc__law_text_by.nd rfl (Or.inl rfl) (pe_op op_mod (pe_ix ix_list (pv 3) pe_int (fun _ _ => rfl)) pe_int))
    (pss_cons (ps_set (i := 5) sc__law_text_by.nd rfl (Or.inl rfl) (pe_lst pa_nil))
    (pss_cons (ps_set (i := 6) sc__law_text_by.nd rfl (Or.inl rfl) pe_int)
    (pss_cons (ps_for PassesOwn.never rfl (pi_range1 rfl m_range (pa_cons (pe_op op_mul pe_int (pv 1)) pa_nil)) (pg_name (i := 7) sc__law_text_by.nd rfl (Or.inl rfl)) (pss_cons (ps_set (i := 8) sc__law_text_by.nd rfl (Or.inl rfl) (pe_op op_sub (pe_op op_mul pe_int (pv 6)) (pv 7)))
    (pss_cons (ps_set (i := 9) sc__law_text_by.nd rfl (Or.inl rfl) (pe_cmpR op_eq (pe_op op_mod (pe_ix ix_list (pv 3) (pv 7) (fun _ _ => rfl)) pe_int) pe_int (nomark _)))
    (pss_cons (ps_if (pt_cmpR op_eq (pv 4) pe_int (nomark _)) (pss_one (ps_set (i := 9) sc__law_text_by.nd rfl (Or.inl rfl) (pe_cmpR op_gt (pe_op op_mod (pe_ix ix_list (pv 3) (pv 7) (fun _ _ => rfl)) pe_int) pe_int (nomark _)))) pss_nil)
    (pss_cut (ps_if (pt_cmpR op_eq (pv 4) pe_int (nomark _)) (pss_one (ps_set (i := 9) sc__law_text_by.nd rfl (Or.inl rfl) (pe_cmpR op_eq (pe_op op_mod (pe_ix ix_list (pv 3) (pv 7) (fun _ _ => rfl)) pe_int) pe_int (nomark _)))) pss_nil)
    (pss_one (ps_if (PW.pt (pw_and (pt_cmpR op_lt (pv 6) (pv 1) (nomark _)) (pw_and1 (PW.pt (pw_or (pt_cmpR op_eq (pv 8) pe_int (nomark _)) (pw_or1 (pt_val (pv 9)))))))) (pss_cons (ps_expr (pe_bm PySem.F.plainAttrs_list PySem.F.slot_list_append PySem.F.type_list_append mt_append (pv 5) (pa_cons pe_str pa_nil)))
    (pss_one (ps_set (i := 6) sc__law_text_by.nd rfl (Or.inl rfl) (pe_op op_add (pv 6) pe_int)))) (pss_one (ps_expr (pe_bm PySem.F.plainAttrs_list PySem.F.slot_list_append PySem.F.type_list_append mt_append (pv 5) (pa_cons pe_str pa_nil)))))))))))
    (pss_one (ps_ret (pe_bm PySem.F.plainAttrs_str PySem.F.slot_str_join PySem.F.type_str_join mt_join pe_str (pa_cons (pv 5) pa_nil)))))))), ?_⟩
  refine ⟨_, rfl, _, rfl, a, ns, t, 81, rfl, hS, h63, t0, t1, by decide, by decide, fun pd xs H1 sm1 fd hd lx bx => ?_⟩
  have lx' : xs.length = 81 := lx
  have at80 := atI_int (ns := xs) (i := 80) (by decide) (by omega)
  refine ⟨_, rfl, pd, _, _, _, rfl, rfl, SqL.of hd, at80, _, _, rfl, rfl, pm (by decide), ?_⟩
  try dsimp only
  generalize xs.getD (80 : Int).toNat 0 % 4 = e
  refine ⟨Nat.zero_le _, fun ps hps => ?_⟩
  have nps : pd ≠ ps := ne_of_none hd hps
  have fps : H ps = none := sm1.free hps
  refine ⟨_, rfl, _, _, rfl, rfl, .inl ⟨by decide, by decide⟩, _, rfl, by omega, by omega, for_range (lo := 0) (n := (2 * n).toNat) (fun i σ H' => ∃ (o1 o2 o3 : Option V) (l : List Nat) (u h : Nat), σ = [some (.ref a), some (.int n), some (.int t), some (.ref pd), some (.int e), some (.ref ps), some (.int u), o1, o2, o3] ∧ Same H H' ∧ H' pd = some (.lst (xs.map V.int)) ∧ H' ps = some (.lst (l.map sgn)) ∧ Beg n.toNat l i u h)
    ⟨_, _, _, [], 0, 0, rfl, Same.new sm1 hps _, (upd_ne nps).trans hd, upd_same, ⟨rfl, rfl, Nat.zero_le _, fun t => rfl⟩⟩ ?_ ?_⟩
  · rintro i σ H5 hi ⟨o1, o2, o3, l, u, h, rfl, sm, hd5, hl, bg⟩
    have atk := atI_int (ns := xs) (i := (0 : Int) + (i : Int)) (by omega) (by omega)
    have bal := bg.bal
    have le := bg.le
    have ll := bg.len
    have lmap : (l.map sgn).length < sizeLine := by rw [List.length_map]; exact sz' (by omega)
    refine ⟨_, rfl, _, _, rfl, rfl, .inl ⟨by decide, by decide⟩, _, rfl, _, _, rfl, rfl, ?_⟩
    refine ⟨_, rfl, _, rfl, pd, _, _, _, rfl, rfl, SqL.of hd5, atk, _, _, rfl, rfl, pm (by decide), rfl, ?_⟩
    -- what the turn goes on with
    let P : L2.St → Hp → Prop := fun σ' H' => H' = H5 ∧ ∃ b : Bool, σ' = [some (.ref a), some (.int n), some (.int t), some (.ref pd), some (.int e), some (.ref ps), some (.int u), some (.int ((0 : Int) + (i : Int))), some (.int (2 * (u : Int) - ((0 : Int) + (i : Int)))), some (.bl b)]
    refine ⟨_, rfl, rfl, _, rfl, ite2 (fun _ => ⟨_, rfl, _, rfl, pd, _, _, _, rfl, rfl, SqL.of hd5, atk, _, _, rfl, rfl, pm (by decide), _, _, rfl, rfl, P, ?_, ?_⟩) (fun _ => ⟨P, ?_, ?_⟩)⟩
    case refine_1 => exact ⟨_, rfl, rfl, _, rfl, ite2 (fun _ => ⟨_, rfl, _, rfl, pd, _, _, _, rfl, rfl, SqL.of hd5, atk, _, _, rfl, rfl, pm (by decide), rfl, rfl, _, rfl⟩) (fun _ => ⟨rfl, _, rfl⟩)⟩
    case refine_3 => exact ⟨_, rfl, rfl, _, rfl, ite2 (fun _ => ⟨_, rfl, _, rfl, pd, _, _, _, rfl, rfl, SqL.of hd5, atk, _, _, rfl, rfl, pm (by decide), rfl, rfl, _, rfl⟩) (fun _ => ⟨rfl, _, rfl⟩)⟩
    all_goals
      rintro σ' H' ⟨rfl, b, rfl⟩
      refine ⟨_, rfl, _, rfl, _, _, rfl, rfl, _, rfl, ?_⟩
      by_cases hu : (u : Int) < n
      · refine iteP hu ⟨_, rfl, rfl, _, rfl, ?_⟩
        by_cases hh : h = 0
        · refine iteP (congrArg V.int (by omega)) (iteT ⟨_, rfl, .inl ⟨rfl, _, SqL.of hl⟩, ps, _, _, rfl, rfl, hl, lmap, _, rfl, _, _, rfl, rfl, ?_⟩)
          exact ⟨_, _, _, l ++ [40], u + 1, h + 1, rfl, sm.upd fps _, (upd_ne nps).trans hd5, by rw [upd_same, List.map_append, sgn40]; rfl, bg.up (by omega)⟩
        · obtain ⟨h', rfl⟩ : ∃ h', h = h' + 1 := ⟨h - 1, by omega⟩
          refine iteN (fun z => by injection z with z; omega) ⟨_, rfl, _, rfl, ?_⟩
          cases b with
          | true =>
            refine iteT ⟨_, rfl, .inl ⟨rfl, _, SqL.of hl⟩, ps, _, _, rfl, rfl, hl, lmap, _, rfl, _, _, rfl, rfl, ?_⟩
            exact ⟨_, _, _, l ++ [40], u + 1, h' + 1 + 1, rfl, sm.upd fps _, (upd_ne nps).trans hd5, by rw [upd_same, List.map_append, sgn40]; rfl, bg.up (by omega)⟩
          | false =>
            refine iteF ⟨_, rfl, .inl ⟨rfl, _, SqL.of hl⟩, ps, _, _, rfl, rfl, hl, lmap, ?_⟩
            exact ⟨_, _, _, l ++ [41], u, h', rfl, sm.upd fps _, (upd_ne nps).trans hd5, by rw [upd_same, List.map_append, sgn41]; rfl, bg.down⟩
      · obtain ⟨h', rfl⟩ : ∃ h', h = h' + 1 := ⟨h - 1, by omega⟩
        refine iteN hu (iteF ⟨_, rfl, .inl ⟨rfl, _, SqL.of hl⟩, ps, _, _, rfl, rfl, hl, lmap, ?_⟩)
        exact ⟨_, _, _, l ++ [41], u, h', rfl, sm.upd fps _, (upd_ne nps).trans hd5, by rw [upd_same, List.map_append, sgn41]; rfl, bg.down⟩
  · rintro σ H5 ⟨o1, o2, o3, l, u, h, rfl, sm, hd5, hl, bg⟩
    have bal := bg.bal
    have le := bg.le
    have ll := bg.len
    have hz : h = 0 := by omega
    subst hz
    refine ⟨rfl, _, rfl, _, ps, l.map mkS, rfl, rfl, SqL.of (by rw [hl, map_sgn]), ?_, ?_⟩
    · rw [sum_mkS]
      have e0 : (Str.ofString "").length = 0 := by decide +kernel
      show l.length + (l.map mkS).length * (Str.ofString "").length ≤ 16777216
      rw [e0, Nat.mul_zero]
      omega
    · refine q _ H5 sm ?_ ?_
      · rw [join_sgn]
        have := bg.clo []
        rw [List.append_nil] at this
        rw [this]; rfl
      · rw [len_of_codes (join_sgn l), ll]; omega
theorem ok__law_cell_at {ca : ClA} (CA : ClOk K mg ca) {f : Addr} {fd : FuncData} (F : Fun K "_law_cell_at" "_law_cell_at" s__law_cell_at f fd) (m_len : mg "len" = none) : FnOk P w K mg base CX0 1 f fd ["_law_script", "_law_k"] (sp__law_cell_at K ca) := by
  refine F.ok sc__law_cell_at (fun vs H Q E h => ?_) (fun cdv A outer s H vs Q E hr h => ?_)
  · obtain ⟨a, ns, k, rfl, hS, h0, q⟩ := h
    rfl
  obtain ⟨a, ns, k, rfl, hS, h0, q⟩ := h
  refine ⟨_, pss_cons (ps_if (pt_cmpR op_lt (pv 1) (pe_callB call_len_seq rfl m_len bb_len (pa_cons (pv 0) pa_nil)) (nomark _)) (pss_one (ps_ret (pe_ix ix_list (pv 0) (pv 1) (fun _ _ => rfl)))) pss_nil)
    (pss_one (ps_ret pe_int)), ?_⟩
  have hl : (ns.map V.int).length = ns.length := List.length_map _
  refine ⟨_, rfl, _, rfl, a, _, rfl, .inl hS, _, _, rfl, rfl, _, rfl, ite2 (fun c => ?_) (fun c => ?_)⟩
  · have c' : k < (((ns.map V.int).length : Nat) : Int) := of_decide_eq_true c
    rw [hl] at c'
    exact ⟨_, rfl, _, rfl, a, _, _, _, rfl, rfl, hS, atI_int h0 c', q⟩
  · have c' : ¬ k < (((ns.map V.int).length : Nat) : Int) := of_decide_eq_false (Bool.eq_false_iff.mpr c)
    rw [hl] at c'
    have e : ns.getD k.toNat 0 = 0 := by rw [List.getD_eq_getElem?_getD, List.getElem?_eq_none (by omega)]; rfl
    rw [e] at q
    exact q
theorem ok__law_stairs_of {ca : ClA} (CA : ClOk K mg ca) {f : Addr} {fd : FuncData} (F : Fun K "_law_stairs_of" "_law_stairs_of" s__law_stairs_of f fd) (m_range : mg "range" = none) (m_len : mg "len" = none) : FnOk P w K mg base CX0 1 f fd ["_law_text_here"] (sp__law_stairs_of K ca) := by
  refine F.ok sc__law_stairs_of (fun vs H Q E h => ?_) (fun cdv A outer s H vs Q E hr h => ?_)
  · obtain ⟨t, rfl, hz, sg, q⟩ := h
    rfl
  obtain ⟨t, rfl, hz, sg, q⟩ := h
  refine ⟨_, pss_one (ps_ret (pe_comp rfl (pi_range1 rfl m_range (pa_cons (pe_callB call_len_str rfl m_len bb_len (pa_cons (pv 0) pa_nil)) pa_nil)) rfl rfl rfl rfl (N := ["_law_k", "_law_text_here"]) (.own (.cap (j := 0) rfl rfl rfl .nil)) (fun _ _ _ _ _ _ => (pg_name (i := 0) (by show List.Nodup (["_law_k", "_law_text_here"] : List Str); decide +kernel) rfl (Or.inl rfl))) (fun _ _ _ _ _ _ => (pts_one (pt_cmpR op_eq (pe_ix ix_str (pv 1) (pv 0) (fun _ _ => rfl)) pe_str (nomark _)))) (fun _ _ _ _ _ _ => (pe_bmC (K := K) rfl PySem.F.plainAttrs_str PySem.F.slot_str_count PySem.F.type_str_count mt_count (pe_slice sl_str (pv 1) po_none (po_some (pv 0))) (pa_cons pe_str pa_nil))))), ?_⟩
  have lc := cps_len t
  have lz : t.length ≤ sizeLine := sz (by omega)
  refine ⟨_, rfl, t, rfl, lz, _, rfl, by omega, by omega, fun D hD => comp_rangeW (lo := 0) (n := ((t.length : Nat) : Int).toNat) (fun i ys H' => ∃ ms : List Int, Same H H' ∧ H' D = some (.lst ys) ∧ ys = ms.map V.int ∧ ms.length ≤ i ∧ ms ++ stR ((t.cps.toList.take i).count 41) (t.cps.toList.drop i) = stR 0 t.cps.toList) (sz (by omega)) ⟨[], Same.new (Same.refl H) hD _, upd_same, rfl, Nat.le_refl _, rfl⟩ (fun i ys H' _ h => by obtain ⟨ms, _, _, rfl, l, _⟩ := h; rw [List.length_map]; exact l) ?_ ?_⟩
  · rintro i ys H5 R R0 hi ⟨ms, s5, hD5, rfl, ly, e⟩ hR hR0
    have hk : i < t.cps.toList.length := by omega
    have hat := at_code (x := t) (i := (0 : Int) + (i : Int)) (by omega) (by rw [show ((0 : Int) + (i : Int)).toNat = i by omega]; exact List.getElem?_eq_getElem hk)
    have ht : t.cps.toList.take (i + 1) = t.cps.toList.take i ++ [t.cps.toList[i]] := by rw [List.take_succ_eq_append_getElem hk]
    have hs := sg _ (List.getElem_mem hk)
    rw [List.drop_eq_getElem_cons hk] at e
    generalize t.cps.toList[i] = c at hat ht hs e
    refine ⟨Ext.set rfl, ⟨_, rfl, _, rfl, t, _, c, rfl, rfl, lz, hat, rfl, _, rfl, ?_⟩⟩
    refine iteB (dec40 c) ?_
    by_cases hc : c = 40
    · subst hc
      rw [stR_up] at e
      have ec : Txt.count (Txt.slice t none (some ((0 : Int) + (i : Int)))) (Str.ofString ")") = ((((t.cps.toList.take i).count 41 : Nat)) : Int) := by
        rw [show Str.ofString ")" = ⟨#[41]⟩ by decide +kernel, count_one, slice_to (by omega), show ((0 : Int) + (i : Int)).toNat = i by omega]
      refine iteP rfl ⟨_, rfl, _, rfl, _, rfl, t, rfl, lz, rfl, _, _, rfl, rfl, ?_⟩
      rw [ec]
      refine hR _ _ hD5 ⟨ms ++ [(((t.cps.toList.take i).count 41 : Nat) : Int)], s5.upd hD _, upd_same, by rw [List.map_append]; rfl, by rw [List.length_append]; exact Nat.succ_le_succ ly, ?_⟩
      rw [ht, List.count_append, ← e, List.append_assoc]
      rfl
    · have h41 : c = 41 := hs.resolve_left hc
      subst h41
      rw [stR_dn _ _ hc] at e
      refine iteN hc (hR0 _ ⟨ms, s5, hD5, rfl, by omega, ?_⟩)
      rw [ht, List.count_append]
      exact e
  · rintro ys H5 ⟨ms, s5, hD5, rfl, _, e⟩
    rw [show ((t.length : Nat) : Int).toNat = t.cps.toList.length by omega, List.drop_length] at e
    have e' : ms = stR 0 t.cps.toList := by rw [← e]; show ms = ms ++ []; rw [List.append_nil]
    rw [e'] at hD5
    exact q _ _ s5 hD hD5
theorem ok_Brackets__Family___init__ {ca : ClA} (CA : ClOk K mg ca) {fd : FuncData} (F : Fun K "__init__" "Family.__init__" s_Brackets__Family___init__ ca.f_Brackets__Family___init__ fd) : FnOk P w K mg base CX0 1 ca.f_Brackets__Family___init__ fd ["self", "word", "least"] (sp_Brackets__Family___init__ K ca) := by
  refine F.ok sc_Brackets__Family___init__ (fun vs H Q E h => ?_) (fun cdv A outer s H vs Q E hr h => ?_)
  · obtain ⟨x, dx, w, l, rfl, hx, q⟩ := h
    rfl
  obtain ⟨x, dx, w, l, rfl, hx, q⟩ := h
  refine ⟨_, pss_cons (ps_fld (pv 0) (pv 1) rfl)
    (pss_one (ps_fld (pv 0) (pv 2) rfl)), ?_⟩
  refine ⟨_, rfl, _, rfl, x, ca.C_Brackets, dx, _, rfl, hx, CA.c_Brackets, CA.na_Brackets_word, (by show 0 < 1000; decide), ?_⟩
  refine ⟨_, rfl, _, rfl, x, ca.C_Brackets, dx, _, rfl, upd_same, CA.c_Brackets, CA.na_Brackets_least, (by show 1 < 1000; decide), ?_⟩
  exact q _ _ upd_upd (flds_mk w l)
theorem ok_Brackets__SplitFamily___init__ {ca : ClA} (CA : ClOk K mg ca) {fd : FuncData} (F : Fun K "__init__" "SplitFamily.__init__" s_Brackets__SplitFamily___init__ ca.f_Brackets__SplitFamily___init__ fd) {fd0 : FuncData} (d_Brackets__Family___init__ : MDef P w K mg base ["self", "word", "least"] 1 (sp_Brackets__Family___init__ K ca) ca.f_Brackets__Family___init__ fd0) : FnOk P w K mg base CX0 3 ca.f_Brackets__SplitFamily___init__ fd ["self", "word"] (sp_Brackets__SplitFamily___init__ K ca) := by
  refine F.ok sc_Brackets__SplitFamily___init__ (fun vs H Q E h => ?_) (fun cdv A outer s H vs Q E hr h => ?_)
  · obtain ⟨x, dx, w, rfl, hx, q⟩ := h
    rfl
  obtain ⟨x, dx, w, rfl, hx, q⟩ := h
  refine ⟨_, pss_one (ps_expr (pcls CA.m_Family CA.cm_Family___init___Brackets d_Brackets__Family___init__ hr (pa_cons (pv 0) (pa_cons (pv 1) (pa_cons pe_int pa_nil))))), ?_⟩
  exact ⟨_, rfl, _, rfl, x, dx, w, 0, rfl, hx, fun fs H' e f => q fs H' e f⟩
theorem ok_Brackets____init__ {ca : ClA} (CA : ClOk K mg ca) {fd : FuncData} (F : Fun K "__init__" "Brackets.__init__" s_Brackets____init__ ca.f_Brackets____init__ fd) {fd0 : FuncData} (d_Brackets__SplitFamily___init__ : MDef P w K mg base ["self", "word"] 3 (sp_Brackets__SplitFamily___init__ K ca) ca.f_Brackets__SplitFamily___init__ fd0) : FnOk P w K mg base CX0 5 ca.f_Brackets____init__ fd ["self"] (sp_Brackets____init__ K ca) := by
  refine F.ok sc_Brackets____init__ (fun vs H Q E h => ?_) (fun cdv A outer s H vs Q E hr h => ?_)
  · obtain ⟨x, dx, rfl, hx, q⟩ := h
    rfl
  obtain ⟨x, dx, rfl, hx, q⟩ := h
  refine ⟨_, pss_one (ps_expr (pcls CA.m_SplitFamily CA.cm_SplitFamily___init___Brackets d_Brackets__SplitFamily___init__ hr (pa_cons (pv 0) (pa_cons pe_str pa_nil)))), ?_⟩
  exact ⟨_, rfl, x, dx, _, rfl, hx, fun fs H' e f => q fs H' e f⟩
theorem ok_closes {ca : ClA} (CA : ClOk K mg ca) {f : Addr} {fd : FuncData} (F : Fun K "closes" "closes" s_closes f fd) : FnOk P w K mg base CX0 1 f fd ["text"] (sp_closes K ca) := by
  refine F.ok sc_closes (fun vs H Q E h => ?_) (fun cdv A outer s H vs Q E hr h => ?_)
  · obtain ⟨x, rfl, q⟩ := h
    rfl
  obtain ⟨x, rfl, q⟩ := h
  refine ⟨_, pss_cons (ps_set (i := 1) sc_closes.nd rfl (Or.inl rfl) pe_int)
    (pss_cons (ps_for PassesOwn.never rfl (pi_str (pv 0)) (pg_name (i := 2) sc_closes.nd rfl (Or.inl rfl)) (pss_one (ps_if (pt_cmpR op_eq (pv 2) pe_str (nomark _)) (pss_one (ps_aug (i := 1) sc_closes.nd rfl (Or.inl rfl) pe_int ip_add)) (pss_one (ps_if (PW.pt (pw_and (pt_cmpR op_eq (pv 2) pe_str (nomark _)) (pw_and1 (pt_cmpR op_gt (pv 1) pe_int (nomark _))))) (pss_one (ps_aug (i := 1) sc_closes.nd rfl (Or.inl rfl) pe_int ip_sub)) (pss_one (ps_ret pe_bl)))))))
    (pss_one (ps_ret (pe_cmpR op_eq (pv 1) pe_int (nomark _))))), ?_⟩
  have fin : ∀ b, clo 0 x.cps.toList = b → Q (.bl b) H := fun b h => by rw [← h]; exact q
  refine ⟨_, rfl, x, rfl, for_str (x := x) (fun i σ H' => H' = H ∧ ∃ (o : Option V) (d : Nat), σ = [some (.str x), some (.int d), o] ∧ clo 0 x.cps.toList = clo d (x.cps.toList.drop i)) ⟨rfl, none, 0, rfl, rfl⟩ ?_ ?_⟩
  · rintro i c σ H' hc ⟨rfl, o, d, rfl, e⟩
    rw [drop_cps hc] at e
    refine ⟨_, rfl, rfl, _, rfl, iteB (dec40 c) ?_⟩
    by_cases h1 : c = 40
    · refine iteP h1 ⟨_, rfl, _, _, rfl, rfl, rfl, _, d + 1, rfl, ?_⟩
      rw [e, h1, clo_up]
    · refine iteN h1 ⟨_, rfl, rfl, _, rfl, iteB (dec41 c) ?_⟩
      by_cases h2 : c = 41
      · refine iteP h2 ⟨_, rfl, _, _, rfl, rfl, _, rfl, ?_⟩
        cases d with
        | zero => exact iteF (fin false (by rw [e, h2, clo_under]))
        | succ d =>
          refine iteP (by omega) ⟨_, rfl, _, _, rfl, rfl, rfl, some (.str ⟨#[c]⟩), d, ?_, ?_⟩
          · show [some (V.str x), some (V.int (((d + 1 : Nat) : Int) - 1)), some (V.str ⟨#[c]⟩)] = _
            rw [show ((d + 1 : Nat) : Int) - 1 = (d : Int) by omega]
          · rw [e, h2, clo_down]
      · exact iteN h2 (iteF (fin false (by rw [e, clo_other h1 h2])))
  · rintro σ H' ⟨rfl, o, d, rfl, e⟩
    refine ⟨_, rfl, rfl, fin _ ?_⟩
    rw [e, drop_all, clo_nil]
    cases d with
    | zero => rfl
    | succ d => exact (decide_eq_false fun z => by injection z with z; omega).symm
theorem ok_Brackets__is_one {ca : ClA} (CA : ClOk K mg ca) {fd : FuncData} (F : Fun K "is_one" "Brackets.is_one" s_Brackets__is_one ca.f_Brackets__is_one fd) {f0 : Addr} {fd0 : FuncData} (d_closes : Def P w K mg base "closes" ["text"] 1 (sp_closes K ca) f0 fd0) : FnOk P w K mg base CX0 2 ca.f_Brackets__is_one fd ["self", "thing"] (sp_Brackets__is_one K ca) := by
  refine F.ok sc_Brackets__is_one (fun vs H Q E h => ?_) (fun cdv A outer s H vs Q E hr h => ?_)
  · obtain ⟨x, t, rfl, q⟩ := h
    rfl
  obtain ⟨x, t, rfl, q⟩ := h
  refine ⟨_, pss_one (ps_ret (pcall d_closes hr (pa_cons (pv 1) pa_nil))), ?_⟩
  exact ⟨_, rfl, t, rfl, q⟩
theorem ok_Brackets__Family_refuse_other {ca : ClA} (CA : ClOk K mg ca) {fd : FuncData} (F : Fun K "refuse_other" "Family.refuse_other" s_Brackets__Family_refuse_other ca.f_Brackets__Family_refuse_other fd) {fd0 : FuncData} (d_Brackets__is_one : MDef P w K mg base ["self", "thing"] 2 (sp_Brackets__is_one K ca) ca.f_Brackets__is_one fd0) : FnOk P w K mg base CX0 3 ca.f_Brackets__Family_refuse_other fd ["self", "thing"] (sp_Brackets__Family_refuse_other K ca) := by
  refine F.ok sc_Brackets__Family_refuse_other (fun vs H Q E h => ?_) (fun cdv A outer s H vs Q E hr h => ?_)
  · obtain ⟨x, dx, fs, t, rfl, hx, fo, hB, q⟩ := h
    rfl
  obtain ⟨x, dx, fs, t, rfl, hx, fo, hB, q⟩ := h
  refine ⟨_, pss_one (ps_if (pt_not (pt_val (pmeth (pv 0) CA.c_Brackets CA.mt_Brackets_is_one d_Brackets__is_one hr (pa_cons (pv 1) pa_nil)))) (pss_one ps_never) pss_nil), ?_⟩
  exact ⟨_, rfl, x, dx, fs, rfl, hx, fo, _, rfl, x, t, rfl, _, rfl, by rw [hB]; exact iteF (q H (Same.refl H))⟩
theorem ok_brackets_to_stairs {ca : ClA} (CA : ClOk K mg ca) {f : Addr} {fd : FuncData} (F : Fun K "brackets_to_stairs" "brackets_to_stairs" s_brackets_to_stairs f fd) {fd0 : FuncData} (d_Brackets____init__ : MDef P w K mg base ["self"] 5 (sp_Brackets____init__ K ca) ca.f_Brackets____init__ fd0) {fd1 : FuncData} (d_Brackets__Family_refuse_other : MDef P w K mg base ["self", "thing"] 3 (sp_Brackets__Family_refuse_other K ca) ca.f_Brackets__Family_refuse_other fd1) : FnOk P w K mg base CX0 7 f fd ["thing"] (sp_brackets_to_stairs K ca) := by
  refine F.ok sc_brackets_to_stairs (fun vs H Q E h => ?_) (fun cdv A outer s H vs Q E hr h => ?_)
  · obtain ⟨t, rfl, hB, hz, q⟩ := h
    rfl
  obtain ⟨t, rfl, hB, hz, q⟩ := h
  refine ⟨_, pss_cons (ps_expr (pmeth (pmake0 CA.mk_Brackets CA.m_Brackets d_Brackets____init__ hr) CA.c_Brackets CA.mt_Brackets_refuse_other d_Brackets__Family_refuse_other hr (pa_cons (pv 0) pa_nil)))
    (pss_cons (ps_set (i := 1) sc_brackets_to_stairs.nd rfl (Or.inl rfl) (pe_lst pa_nil))
    (pss_cons (ps_set (i := 2) sc_brackets_to_stairs.nd rfl (Or.inl rfl) pe_int)
    (pss_cons (ps_for PassesOwn.never rfl (pi_str (pv 0)) (pg_name (i := 3) sc_brackets_to_stairs.nd rfl (Or.inl rfl)) (pss_one (ps_if (pt_cmpR op_eq (pv 3) pe_str (nomark _)) (pss_one (ps_expr (pe_bm PySem.F.plainAttrs_list PySem.F.slot_list_append PySem.F.type_list_append mt_append (pv 1) (pa_cons (pv 2) pa_nil)))) (pss_one (ps_aug (i := 2) sc_brackets_to_stairs.nd rfl (Or.inl rfl) pe_int ip_add)))))
    (pss_one (ps_ret (pv 1)))))), ?_⟩
  intro x dx nx ndx nex
  refine ⟨x, dx, rfl, upd_same, fun fsx Hx1 ex fx => ⟨rfl, ?_⟩⟩
  have sx : Same H Hx1 := by rw [ex]; exact ((Same.new (Same.refl H) ndx _).upd nx _).upd nx _
  have hx : Hx1 x = some (.ins ca.C_Brackets dx fsx) := by rw [ex]; exact upd_same
  refine ⟨x, dx, fsx, rfl, hx, fx.no "refuse_other" (by decide) (by decide), _, rfl, x, dx, fsx, t, rfl, hx, fx.no "is_one" (by decide) (by decide), hB, fun H2 s2 => ?_⟩
  have t2 := sx.trans s2
  have lc := cps_len t
  refine ⟨Nat.zero_le _, fun pf hpf => ?_⟩
  have fpf := t2.free hpf
  refine ⟨_, rfl, t, rfl, for_str (x := t) (fun i σ H' => ∃ (o1 : Option V) (ms : List Int) (k : Nat), σ = [some (.str t), some (.ref pf), some (.int k), o1] ∧ Same H H' ∧ H' pf = some (.lst (ms.map V.int)) ∧ ms ++ stR k (t.cps.toList.drop i) = stR 0 t.cps.toList ∧ ms.length ≤ i) ⟨_, [], 0, rfl, Same.new t2 hpf _, upd_same, rfl, Nat.le_refl _⟩ ?_ ?_⟩
  · rintro i c σ H3 hc ⟨o1, ms, k, rfl, sm, hf, e, lm⟩
    have hi : i < t.cps.toList.length := by
      have := (Array.getElem?_eq_some_iff.mp hc).1
      simpa using this
    rw [drop_cps hc] at e
    refine ⟨_, rfl, rfl, _, rfl, iteB (dec40 c) ?_⟩
    by_cases h1 : c = 40
    · subst h1
      rw [stR_up] at e
      refine iteP rfl ⟨_, rfl, .inl ⟨rfl, _, SqL.of hf⟩, _, rfl, pf, _, _, rfl, rfl, hf, by rw [List.length_map]; exact sz' (by omega), ?_⟩
      refine ⟨_, ms ++ [(k : Int)], k, rfl, sm.upd fpf _, by rw [upd_same, List.map_append]; rfl, by rw [← e, List.append_assoc]; rfl, by rw [List.length_append]; show ms.length + 1 ≤ i + 1; omega⟩
    · rw [stR_dn k _ h1] at e
      refine iteN h1 ⟨_, rfl, _, _, rfl, rfl, ?_⟩
      exact ⟨_, ms, k + 1, rfl, sm, hf, e, by omega⟩
  · rintro σ H3 ⟨o1, ms, k, rfl, sm, hf, e, lm⟩
    rw [drop_all] at e
    have e' : ms = stR 0 t.cps.toList := by rw [← e]; show ms = ms ++ []; rw [List.append_nil]
    rw [e'] at hf
    exact ⟨_, rfl, q pf H3 sm fpf hf⟩
theorem ok__law_whole {ca : ClA} (CA : ClOk K mg ca) {f : Addr} {fd : FuncData} (F : Fun K "_law_whole" "_law_whole" s__law_whole f fd) (m_isinstance : mg "isinstance" = none) (m_int : mg "int" = none) (m_bool : mg "bool" = none) : FnOk P w K mg base CX0 1 f fd ["_law_found"] (sp__law_whole K ca) := by
  refine F.ok sc__law_whole (fun vs H Q E h => ?_) (fun cdv A outer s H vs Q E hr h => ?_)
  · obtain ⟨n, rfl, q⟩ := h
    rfl
  obtain ⟨n, rfl, q⟩ := h
  refine ⟨_, pss_one (ps_ret (pe_and (pe_callB call_isinst rfl m_isinstance bb_isinstance (pa_cons (pv 0) (pa_cons (pe_bltn (v := .ty "int") rfl m_int bb_int rfl) pa_nil))) (pe_one (pe_not (pe_callB call_isinst rfl m_isinstance bb_isinstance (pa_cons (pv 0) (pa_cons (pe_bltn (v := .ty "bool") rfl m_bool bb_bool rfl) pa_nil))))))), ?_⟩
  exact ⟨_, rfl, _, _, _, _, _, rfl, relTy, .int _, kit_int_int, _, rfl, iteT ⟨_, rfl, _, _, _, _, _, rfl, relTy, .int _, kit_int_bool, _, rfl, q⟩⟩
theorem ok__law_numbers {ca : ClA} (CA : ClOk K mg ca) {f : Addr} {fd : FuncData} (F : Fun K "_law_numbers" "_law_numbers" s__law_numbers f fd) {f0 : Addr} {fd0 : FuncData} (d__law_whole : Def P w K mg base "_law_whole" ["_law_found"] 1 (sp__law_whole K ca) f0 fd0) (m_isinstance : mg "isinstance" = none) (m_list : mg "list" = none) (m_len : mg "len" = none) (m_range : mg "range" = none) : FnOk P w K mg base CX0 2 f fd ["_law_found", "_law_due"] (sp__law_numbers K ca) := by
  refine F.ok sc__law_numbers (fun vs H Q E h => ?_) (fun cdv A outer s H vs Q E hr h => ?_)
  · obtain ⟨p, r, ns, rfl, hp, hr2, hz, q⟩ := h
    rfl
  obtain ⟨p, r, ns, rfl, hp, hr2, hz, q⟩ := h
  refine ⟨_, pss_cons (ps_if (PW.pt (pw_or (pt_not (pt_val (pe_callB call_isinst rfl m_isinstance bb_isinstance (pa_cons (pv 0) (pa_cons (pe_bltn (v := .ty "list") rfl m_list bb_list rfl) pa_nil))))) (pw_or1 (pt_cmpR op_ne (pe_callB call_len_seq rfl m_len bb_len (pa_cons (pv 0) pa_nil)) (pe_callB call_len_seq rfl m_len bb_len (pa_cons (pv 1) pa_nil)) (nomark _))))) (pss_one (ps_ret pe_bl)) pss_nil)
    (pss_cons (ps_for PassesOwn.never rfl (pi_range1 rfl m_range (pa_cons (pe_callB call_len_seq rfl m_len bb_len (pa_cons (pv 1) pa_nil)) pa_nil)) (pg_name (i := 2) sc__law_numbers.nd rfl (Or.inl rfl)) (pss_one (ps_if (PW.pt (pw_or (pt_not (pt_val (pcall d__law_whole hr (pa_cons (pe_ix ix_list (pv 0) (pv 2) (fun _ _ => rfl)) pa_nil)))) (pw_or1 (pt_cmpR op_ne (pe_ix ix_list (pv 0) (pv 2) (fun _ _ => rfl)) (pe_ix ix_list (pv 1) (pv 2) (fun _ _ => rfl)) (nomark _))))) (pss_one (ps_ret pe_bl)) pss_nil)))
    (pss_one (ps_ret pe_bl))), ?_⟩
  have lm : (ns.map V.int).length = ns.length := List.length_map _
  refine ⟨_, rfl, _, _, _, _, _, rfl, relTy, .lst hp, kit_list_list, _, rfl, iteF ⟨_, rfl, p, _, rfl, .inl (SqL.of hp), _, rfl, r, _, rfl, .inl (SqL.of hr2), rfl, _, rfl, iteNS rfl ?_⟩⟩
  refine ⟨_, rfl, r, _, rfl, .inl (SqL.of hr2), _, rfl, by omega, by omega, for_range (lo := 0) (n := (((ns.map V.int).length : Nat) : Int).toNat) (fun i σ H' => H = H' ∧ ∃ o, σ = [some (.ref p), some (.ref r), o]) ⟨rfl, _, rfl⟩ ?_ ?_⟩
  · rintro i σ H' hi ⟨rfl, o, rfl⟩
    have at1 := atI_int (ns := ns) (i := (0 : Int) + (i : Int)) (by omega) (by omega)
    exact ⟨_, rfl, _, rfl, p, _, _, _, rfl, rfl, SqL.of hp, at1, _, rfl, _, rfl, iteF ⟨_, rfl, _, rfl, p, _, _, _, rfl, rfl, SqL.of hp, at1, _, rfl, _, rfl, r, _, _, _, rfl, rfl, SqL.of hr2, at1, rfl, _, rfl, iteNS rfl ⟨rfl, _, rfl⟩⟩⟩
  · rintro σ H' ⟨rfl, o, rfl⟩
    exact q
theorem ok__law_text {ca : ClA} (CA : ClOk K mg ca) {f : Addr} {fd : FuncData} (F : Fun K "_law_text" "_law_text" s__law_text f fd) (m_isinstance : mg "isinstance" = none) (m_str : mg "str" = none) : FnOk P w K mg base CX0 1 f fd ["_law_found", "_law_due"] (sp__law_text K ca) := by
  refine F.ok sc__law_text (fun vs H Q E h => ?_) (fun cdv A outer s H vs Q E hr h => ?_)
  · obtain ⟨t, rfl, q⟩ := h
    rfl
  obtain ⟨t, rfl, q⟩ := h
  refine ⟨_, pss_one (ps_ret (pe_and (pe_callB call_isinst rfl m_isinstance bb_isinstance (pa_cons (pv 0) (pa_cons (pe_bltn (v := .ty "str") rfl m_str bb_str rfl) pa_nil))) (pe_one (pe_cmpR op_eq (pv 0) (pv 1) (nomark _))))), ?_⟩
  refine ⟨_, rfl, _, _, _, _, _, rfl, relTy, .str _, kit_str_str, _, rfl, iteT ⟨_, rfl, _, rfl, rfl, ?_⟩⟩
  rw [decide_eq_true rfl]
  exact q
theorem ok_Stairs__Family___init__ {ca : ClA} (CA : ClOk K mg ca) {fd : FuncData} (F : Fun K "__init__" "Family.__init__" s_Stairs__Family___init__ ca.f_Stairs__Family___init__ fd) : FnOk P w K mg base CX0 1 ca.f_Stairs__Family___init__ fd ["self", "word", "least"] (sp_Stairs__Family___init__ K ca) := by
  refine F.ok sc_Stairs__Family___init__ (fun vs H Q E h => ?_) (fun cdv A outer s H vs Q E hr h => ?_)
  · obtain ⟨x, dx, w, l, rfl, hx, q⟩ := h
    rfl
  obtain ⟨x, dx, w, l, rfl, hx, q⟩ := h
  refine ⟨_, pss_cons (ps_fld (pv 0) (pv 1) rfl)
    (pss_one (ps_fld (pv 0) (pv 2) rfl)), ?_⟩
  refine ⟨_, rfl, _, rfl, x, ca.C_Stairs, dx, _, rfl, hx, CA.c_Stairs, CA.na_Stairs_word, (by show 0 < 1000; decide), ?_⟩
  refine ⟨_, rfl, _, rfl, x, ca.C_Stairs, dx, _, rfl, upd_same, CA.c_Stairs, CA.na_Stairs_least, (by show 1 < 1000; decide), ?_⟩
  exact q _ _ upd_upd (flds_mk w l)
theorem ok_Stairs__SplitFamily___init__ {ca : ClA} (CA : ClOk K mg ca) {fd : FuncData} (F : Fun K "__init__" "SplitFamily.__init__" s_Stairs__SplitFamily___init__ ca.f_Stairs__SplitFamily___init__ fd) {fd0 : FuncData} (d_Stairs__Family___init__ : MDef P w K mg base ["self", "word", "least"] 1 (sp_Stairs__Family___init__ K ca) ca.f_Stairs__Family___init__ fd0) : FnOk P w K mg base CX0 3 ca.f_Stairs__SplitFamily___init__ fd ["self", "word"] (sp_Stairs__SplitFamily___init__ K ca) := by
  refine F.ok sc_Stairs__SplitFamily___init__ (fun vs H Q E h => ?_) (fun cdv A outer s H vs Q E hr h => ?_)
  · obtain ⟨x, dx, w, rfl, hx, q⟩ := h
    rfl
  obtain ⟨x, dx, w, rfl, hx, q⟩ := h
  refine ⟨_, pss_one (ps_expr (pcls CA.m_Family CA.cm_Family___init___Stairs d_Stairs__Family___init__ hr (pa_cons (pv 0) (pa_cons (pv 1) (pa_cons pe_int pa_nil))))), ?_⟩
  exact ⟨_, rfl, _, rfl, x, dx, w, 0, rfl, hx, fun fs H' e f => q fs H' e f⟩
theorem ok_Stairs____init__ {ca : ClA} (CA : ClOk K mg ca) {fd : FuncData} (F : Fun K "__init__" "Stairs.__init__" s_Stairs____init__ ca.f_Stairs____init__ fd) {fd0 : FuncData} (d_Stairs__SplitFamily___init__ : MDef P w K mg base ["self", "word"] 3 (sp_Stairs__SplitFamily___init__ K ca) ca.f_Stairs__SplitFamily___init__ fd0) : FnOk P w K mg base CX0 5 ca.f_Stairs____init__ fd ["self"] (sp_Stairs____init__ K ca) := by
  refine F.ok sc_Stairs____init__ (fun vs H Q E h => ?_) (fun cdv A outer s H vs Q E hr h => ?_)
  · obtain ⟨x, dx, rfl, hx, q⟩ := h
    rfl
  obtain ⟨x, dx, rfl, hx, q⟩ := h
  refine ⟨_, pss_one (ps_expr (pcls CA.m_SplitFamily CA.cm_SplitFamily___init___Stairs d_Stairs__SplitFamily___init__ hr (pa_cons (pv 0) (pa_cons pe_str pa_nil)))), ?_⟩
  exact ⟨_, rfl, x, dx, _, rfl, hx, fun fs H' e f => q fs H' e f⟩
theorem ok_Stairs__is_one {ca : ClA} (CA : ClOk K mg ca) {fd : FuncData} (F : Fun K "is_one" "Stairs.is_one" s_Stairs__is_one ca.f_Stairs__is_one fd) (m_enumerate : mg "enumerate" = none) : FnOk P w K mg base CX0 1 ca.f_Stairs__is_one fd ["self", "thing"] (sp_Stairs__is_one K ca) := by
  refine F.ok sc_Stairs__is_one (fun vs H Q E h => ?_) (fun cdv A outer s H vs Q E hr h => ?_)
  · obtain ⟨x, l, ns, rfl, hl, q⟩ := h
    rfl
  obtain ⟨x, l, ns, rfl, hl, q⟩ := h
  refine ⟨_, pss_cons (ps_set (i := 2) sc_Stairs__is_one.nd rfl (Or.inl rfl) pe_int)
    (pss_cons (ps_for PassesOwn.never rfl (pi_enum rfl m_enumerate (pa_cons (pv 1) pa_nil)) (pg_tup rfl (pgs_cons (pg_name (i := 3) sc_Stairs__is_one.nd rfl (Or.inl rfl)) (pgs_cons (pg_name (i := 4) sc_Stairs__is_one.nd rfl (Or.inl rfl)) pgs_nil))) (pss_cons (ps_if (PW.pt (pw_or (pt_cmpR op_lt (pv 4) (pv 2) (nomark _)) (pw_or1 (pt_cmpR op_gt (pv 4) (pv 3) (nomark _))))) (pss_one (ps_ret pe_bl)) pss_nil)
    (pss_one (ps_set (i := 2) sc_Stairs__is_one.nd rfl (Or.inl rfl) (pv 4)))))
    (pss_one (ps_ret pe_bl))), ?_⟩
  have lm : (ns.map V.int).length = ns.length := List.length_map _
  refine ⟨_, rfl, l, rfl, ⟨_, hl⟩, for_enum (xs := ns.map V.int) (fun i σ H' => ∃ (o1 o2 : Option V) (a : Int), σ = [some (.ref x), some (.ref l), some (.int a), o1, o2] ∧ Same H H' ∧ stF 0 0 ns = stF i a (ns.drop i)) ⟨_, _, 0, rfl, Same.refl H, rfl⟩ (fun i σ H' _ h => h.choose_spec.choose_spec.choose_spec.2.1.seq hl) ?_ ?_⟩
  · rintro i v σ H' T hv ⟨o1, o2, a, rfl, sm, e⟩ hT
    obtain ⟨c, rfl⟩ := get_int hv
    have hc : ns[i]? = some c := by
      rw [List.getElem?_map] at hv
      cases h : ns[i]? with
      | none => rw [h] at hv; cases hv
      | some d => rw [h] at hv; injection hv with hv; injection hv with hv; rw [hv]
    have hi : i < ns.length := (List.getElem?_eq_some_iff.mp hc).1
    have ed : ns.drop i = c :: ns.drop (i + 1) := by
      rw [get_drop hi, List.getD_eq_getElem?_getD, hc]; rfl
    rw [ed] at e
    have sm' := Same.new sm hT (.tup [.int (i : Int), .int c])
    refine ⟨T, _, rfl, SqT.of upd_same, rfl, _, _, rfl, _, _, rfl, rfl, ?_⟩
    refine ⟨_, rfl, _, rfl, _, _, rfl, rfl, _, rfl, ?_⟩
    by_cases h1 : c < a
    · refine iteP h1 (iteT ?_)
      rw [stF_bad (.inl h1)] at e
      rw [e] at q
      exact q _ sm'
    refine iteN h1 ⟨_, rfl, _, rfl, _, _, rfl, rfl, _, rfl, ?_⟩
    by_cases h2 : (i : Int) < c
    · refine iteP h2 ?_
      rw [stF_bad (.inr h2)] at e
      rw [e] at q
      exact q _ sm'
    · refine iteN h2 ⟨_, rfl, ?_⟩
      rw [stF_go (by omega)] at e
      exact ⟨_, _, c, rfl, sm', e⟩
  · rintro σ H' ⟨o1, o2, a, rfl, sm, e⟩
    rw [lm, List.drop_length, stF_nil] at e
    rw [e] at q
    exact q _ sm
theorem ok_Stairs__Family_refuse_other {ca : ClA} (CA : ClOk K mg ca) {fd : FuncData} (F : Fun K "refuse_other" "Family.refuse_other" s_Stairs__Family_refuse_other ca.f_Stairs__Family_refuse_other fd) {fd0 : FuncData} (d_Stairs__is_one : MDef P w K mg base ["self", "thing"] 1 (sp_Stairs__is_one K ca) ca.f_Stairs__is_one fd0) : FnOk P w K mg base CX0 2 ca.f_Stairs__Family_refuse_other fd ["self", "thing"] (sp_Stairs__Family_refuse_other K ca) := by
  refine F.ok sc_Stairs__Family_refuse_other (fun vs H Q E h => ?_) (fun cdv A outer s H vs Q E hr h => ?_)
  · obtain ⟨x, dx, fs, l, ns, rfl, hx, fo, hl, hB, q⟩ := h
    rfl
  obtain ⟨x, dx, fs, l, ns, rfl, hx, fo, hl, hB, q⟩ := h
  refine ⟨_, pss_one (ps_if (pt_not (pt_val (pmeth (pv 0) CA.c_Stairs CA.mt_Stairs_is_one d_Stairs__is_one hr (pa_cons (pv 1) pa_nil)))) (pss_one ps_never) pss_nil), ?_⟩
  exact ⟨_, rfl, x, dx, fs, rfl, hx, fo, _, rfl, x, l, ns, rfl, hl, fun H1 s1 => ⟨_, rfl, by rw [hB]; exact iteF (q H1 s1)⟩⟩
theorem ok_stairs_to_brackets {ca : ClA} (CA : ClOk K mg ca) {f : Addr} {fd : FuncData} (F : Fun K "stairs_to_brackets" "stairs_to_brackets" s_stairs_to_brackets f fd) {fd0 : FuncData} (d_Stairs____init__ : MDef P w K mg base ["self"] 5 (sp_Stairs____init__ K ca) ca.f_Stairs____init__ fd0) {fd1 : FuncData} (d_Stairs__Family_refuse_other : MDef P w K mg base ["self", "thing"] 2 (sp_Stairs__Family_refuse_other K ca) ca.f_Stairs__Family_refuse_other fd1) (m_len : mg "len" = none) : FnOk P w K mg base CX0 7 f fd ["thing"] (sp_stairs_to_brackets K ca) := by
  refine F.ok sc_stairs_to_brackets (fun vs H Q E h => ?_) (fun cdv A outer s H vs Q E hr h => ?_)
  · obtain ⟨l, ns, rfl, hl, hB, hz, q⟩ := h
    rfl
  obtain ⟨l, ns, rfl, hl, hB, hz, q⟩ := h
  refine ⟨_, pss_cons (ps_expr (pmeth (pmake0 CA.mk_Stairs CA.m_Stairs d_Stairs____init__ hr) CA.c_Stairs CA.mt_Stairs_refuse_other d_Stairs__Family_refuse_other hr (pa_cons (pv 0) pa_nil)))
    (pss_cons (ps_set (i := 1) sc_stairs_to_brackets.nd rfl (Or.inl rfl) (pe_lst pa_nil))
    (pss_cons (ps_set (i := 2) sc_stairs_to_brackets.nd rfl (Or.inl rfl) pe_int)
    (pss_cons (ps_for PassesOwn.never rfl (pi_list (pv 0)) (pg_name (i := 3) sc_stairs_to_brackets.nd rfl (Or.inl rfl)) (pss_cons (ps_expr (pe_bm PySem.F.plainAttrs_list PySem.F.slot_list_append PySem.F.type_list_append mt_append (pv 1) (pa_cons (pe_op op_add_str (pe_op op_mul_str pe_str (pe_op op_sub (pv 3) (pv 2))) pe_str) pa_nil)))
    (pss_one (ps_set (i := 2) sc_stairs_to_brackets.nd rfl (Or.inl rfl) (pv 3)))))
    (pss_one (ps_ret (pe_op op_add_str (pe_bm PySem.F.plainAttrs_str PySem.F.slot_str_join PySem.F.type_str_join mt_join pe_str (pa_cons (pv 1) pa_nil)) (pe_op op_mul_str pe_str (pe_op op_sub (pe_callB call_len_seq rfl m_len bb_len (pa_cons (pv 0) pa_nil)) (pv 2))))))))), ?_⟩
  intro x dx nx ndx nex
  refine ⟨x, dx, rfl, upd_same, fun fsx Hx1 ex fx => ⟨rfl, ?_⟩⟩
  have sx : Same H Hx1 := by rw [ex]; exact ((Same.new (Same.refl H) ndx _).upd nx _).upd nx _
  have hx : Hx1 x = some (.ins ca.C_Stairs dx fsx) := by rw [ex]; exact upd_same
  refine ⟨x, dx, fsx, rfl, hx, fx.no "refuse_other" (by decide) (by decide), _, rfl, x, dx, fsx, l, ns, rfl, hx, fx.no "is_one" (by decide) (by decide), sx.seq hl, hB, fun H2 s2 => ?_⟩
  have t2 := sx.trans s2
  have lm : (ns.map V.int).length = ns.length := List.length_map _
  have l1 : (Str.ofString "(").length = 1 := by decide +kernel
  have s40 : (Str.ofString "(").cps.toList = [40] := by decide +kernel
  have s41 : Str.ofString ")" = ⟨#[41]⟩ := by decide +kernel
  have bound : ∀ (i : Nat) (n : Int), ns[i]? = some n → 0 ≤ n ∧ n ≤ (i : Int) := stF_in hB
  refine ⟨Nat.zero_le _, fun pf hpf => ?_⟩
  have fpf := t2.free hpf
  have mulc : ∀ n : Int, (Txt.mul (Str.ofString ")") n).cps.toList = List.replicate n.toNat 41 := fun n => by rw [s41]; exact mul_codes 41 n
  refine ⟨_, rfl, l, rfl, ⟨_, (Same.new t2 hpf (.lst [])).seq hl⟩, for_list (xs := ns.map V.int) (fun i σ H' => ∃ (o1 : Option V) (ys : List Str) (k : Nat), σ = [some (.ref l), some (.ref pf), some (.int k), o1] ∧ Same H H' ∧ H' pf = some (.lst (ys.map V.str)) ∧ (ys.map (·.cps.toList)).flatten ++ txF ns.length k (ns.drop i) = txF ns.length 0 ns ∧ ys.length ≤ i ∧ k ≤ i ∧ (ys.map (·.length)).sum ≤ 50 * i ∧ stF i k (ns.drop i) = true) ⟨_, [], 0, rfl, Same.new t2 hpf _, upd_same, rfl, Nat.le_refl _, Nat.le_refl _, Nat.le_refl _, hB⟩ (fun i σ H' _ h => h.choose_spec.choose_spec.choose_spec.2.1.seq hl) ?_ ?_⟩
  · rintro i v σ H3 hv ⟨o1, ys, k, rfl, sm, hf, e, ly, lk, ls, st⟩
    obtain ⟨n, rfl⟩ := get_int hv
    have hn : ns[i]? = some n := by
      rw [List.getElem?_map] at hv
      cases h : ns[i]? with
      | none => rw [h] at hv; cases hv
      | some d => rw [h] at hv; injection hv with hv; injection hv with hv; rw [hv]
    have hi : i < ns.length := (List.getElem?_eq_some_iff.mp hn).1
    have dr : ns.drop i = n :: ns.drop (i + 1) := by
      rw [List.drop_eq_getElem_cons hi]
      have := (List.getElem?_eq_some_iff.mp hn).2
      rw [this]
    have bn := bound i n hn
    rw [dr] at e st
    have kn : ¬ (n < (k : Int) ∨ (i : Int) < n) := fun z => by rw [stF_bad z] at st; cases st
    rw [stF_go kn] at st
    refine ⟨_, rfl, .inl ⟨rfl, _, SqL.of hf⟩, _, rfl, _, rfl, _, _, rfl, rfl, _, _, rfl, rfl, mulOk_sign41 (by omega) (by omega), _, _, rfl, rfl, ?_, pf, _, _, rfl, rfl, hf, by rw [List.length_map]; exact sz' (by omega), ?_⟩
    · have := cps_len (Txt.mul (Str.ofString ")") (n - (k : Int)))
      rw [mulc, List.length_replicate] at this
      exact sz (by omega)
    have lw : (Txt.mul (Str.ofString ")") (n - (k : Int)) ++ Str.ofString "(").length ≤ 50 := by
      have := cps_len (Txt.mul (Str.ofString ")") (n - (k : Int)))
      rw [mulc, List.length_replicate] at this
      rw [app_length]
      omega
    refine ⟨_, rfl, some (.int n), ys ++ [Txt.mul (Str.ofString ")") (n - (k : Int)) ++ Str.ofString "("], n.toNat, ?_, sm.upd fpf _, by rw [upd_same, List.map_append]; rfl, ?_, by rw [List.length_append]; show ys.length + 1 ≤ i + 1; omega, by omega, ?_, ?_⟩
    · rw [show ((n.toNat : Nat) : Int) = n by omega]
      rfl
    · rw [← e, List.map_append, List.flatten_append]
      show _ ++ [(Txt.mul (Str.ofString ")") (n - (k : Int)) ++ Str.ofString "(").cps.toList].flatten ++ _ = _ ++ (List.replicate (n.toNat - k) 41 ++ 40 :: txF ns.length n.toNat (ns.drop (i + 1)))
      rw [app_codes, mulc, s40, show (n - (k : Int)).toNat = n.toNat - k by omega]
      simp
    · rw [List.map_append, List.sum_append]
      show _ + ((Txt.mul (Str.ofString ")") (n - (k : Int)) ++ Str.ofString "(").length + 0) ≤ _
      omega
    · rw [show ((n.toNat : Nat) : Int) = n by omega]
      exact st
  · rintro σ H3 ⟨o1, ys, k, rfl, sm, hf, e, ly, lk, ls, st⟩
    rw [lm] at ly lk ls e
    have dr : ns.drop ns.length = [] := List.drop_eq_nil_of_le (Nat.le_refl _)
    rw [dr] at e
    have e' : (ys.map (·.cps.toList)).flatten ++ List.replicate (ns.length - k) 41 = txF ns.length 0 ns := e
    have lj : (Txt.join (Str.ofString "") ys).length ≤ 100000 := by
      rw [← cps_len, join_codes _ empty_cps, List.length_flatten, List.map_map]
      have e2 : ys.map (List.length ∘ fun x => x.cps.toList) = ys.map (·.length) := List.map_congr_left fun y _ => cps_len y
      rw [e2]
      omega
    refine ⟨rfl, _, rfl, _, pf, ys, rfl, rfl, SqL.of hf, ?_, _, rfl, l, _, rfl, .inl (sm.seq hl), _, rfl, _, _, rfl, rfl, _, _, rfl, rfl, mulOk_sign41 (by omega) (by omega), _, _, rfl, rfl, ?_, q _ H3 sm ?_⟩
    · rw [show (Str.ofString "").length = 0 by decide +kernel]
      omega
    · have := cps_len (Txt.mul (Str.ofString ")") (((ns.map V.int).length : Int) - (k : Int)))
      rw [mulc, List.length_replicate] at this
      exact sz (by omega)
    · rw [app_codes, mulc, join_codes _ empty_cps, ← e', show (((ns.map V.int).length : Int) - (k : Int)).toNat = ns.length - k by omega]
theorem ok__law_mate {ca : ClA} (CA : ClOk K mg ca) {f : Addr} {fd : FuncData} (F : Fun K "_law_mate" "_law_mate" s__law_mate f fd) (m_range : mg "range" = none) (m_len : mg "len" = none) (m_int : mg "int" = none) : FnOk P w K mg base CX0 1 f fd ["_law_text_here", "_law_at"] (sp__law_mate K ca) := by
  refine F.ok sc__law_mate (fun vs H Q E h => ?_) (fun cdv A outer s H vs Q E hr h => ?_)
  · obtain ⟨t, k, rfl, hz, hk, q⟩ := h
    rfl
  obtain ⟨t, k, rfl, hz, hk, q⟩ := h
  refine ⟨_, pss_cons (ps_set (i := 2) sc__law_mate.nd rfl (Or.inl rfl) pe_int)
    (pss_cons (ps_for PassesOwn.never rfl (pi_range2 rfl m_range (pa_cons (pv 1) (pa_cons (pe_callB call_len_str rfl m_len bb_len (pa_cons (pv 0) pa_nil)) pa_nil))) (pg_name (i := 3) sc__law_mate.nd rfl (Or.inl rfl)) (pss_cons (ps_set (i := 2) sc__law_mate.nd rfl (Or.inl rfl) (pe_op op_sub (pe_op op_add (pv 2) pe_int) (pe_op op_mul pe_int (pe_callTy call_int1 rfl m_int bb_int (pa_cons (pe_cmpR op_eq (pe_ix ix_str (pv 0) (pv 3) (fun _ _ => rfl)) pe_str (nomark _)) pa_nil)))))
    (pss_one (ps_if (pt_cmpR op_eq (pv 2) pe_int (nomark _)) (pss_one (ps_ret (pv 3))) pss_nil))))
    (pss_one (ps_ret (pe_un un_neg pe_int)))), ?_⟩
  have lc := cps_len t
  have lz : t.length ≤ sizeLine := sz (by omega)
  refine ⟨_, rfl, _, rfl, t, rfl, lz, _, _, rfl, ⟨by omega, by omega, by omega, by omega⟩, for_range (lo := (k : Int)) (n := (((t.length : Nat) : Int) - (k : Int)).toNat) (fun i σ H' => ∃ (o1 : Option V), σ = [some (.str t), some (.int (k : Int)), some (.int (Dp t.cps.toList (k + i) - Dp t.cps.toList k)), o1] ∧ H = H' ∧ ∀ m, k ≤ m → m < k + i → Dp t.cps.toList (m + 1) ≠ Dp t.cps.toList k) ⟨none, by rw [Nat.add_zero, Int.sub_self]; rfl, rfl, fun m h1 h2 => by omega⟩ ?_ ?_⟩
  · rintro i σ H' hi ⟨o1, rfl, rfl, no⟩
    have hlt : k + i < t.cps.toList.length := by omega
    have hc : t.cps.toList[((k : Int) + (i : Int)).toNat]? = some (t.cps.toList.getD (k + i) 0) := by
      rw [show ((k : Int) + (i : Int)).toNat = k + i by omega, List.getD_eq_getElem?_getD, List.getElem?_eq_getElem hlt]
      rfl
    have hat := at_code (by omega) hc
    have ds := Dp_succ hlt
    generalize t.cps.toList.getD (k + i) 0 = c at hat ds
    refine ⟨_, rfl, _, _, rfl, rfl, _, rfl, _, rfl, t, _, _, rfl, rfl, lz, hat, rfl, .inr ⟨_, rfl, _, _, rfl, rfl, .inl ⟨by decide, by decide⟩, _, _, rfl, rfl, ?_⟩⟩
    try dsimp only
    rw [int41]
    have e : Dp t.cps.toList (k + i) - Dp t.cps.toList k + 1 - 2 * (if c = 41 then 1 else 0) = Dp t.cps.toList (k + (i + 1)) - Dp t.cps.toList k := by
      rw [show k + (i + 1) = k + i + 1 by omega, ds]
      omega
    rw [e]
    refine ⟨_, rfl, rfl, _, rfl, ?_⟩
    by_cases z : Dp t.cps.toList (k + (i + 1)) - Dp t.cps.toList k = 0
    · refine iteP (congrArg V.int z) ⟨_, rfl, ?_⟩
      have m := mate_is (c := t.cps.toList) (k := k) (j := k + i) (by omega) hlt (by rw [show k + i + 1 = k + (i + 1) by omega]; omega) no
      rw [m] at q
      rw [show (k : Int) + (i : Int) = ((k + i : Nat) : Int) by omega]
      exact q
    · refine iteN (fun w => z (by injection w)) ⟨_, rfl, rfl, fun m h1 h2 => ?_⟩
      by_cases em : m = k + i
      · subst em
        rw [show k + i + 1 = k + (i + 1) by omega]
        omega
      · exact no m h1 (by omega)
  · rintro σ H' ⟨o1, rfl, rfl, no⟩
    have m := mate_no (c := t.cps.toList) (k := k) fun m h1 h2 => no m h1 (by omega)
    rw [m] at q
    exact ⟨_, rfl, q⟩
theorem ok__law_bows_of {ca : ClA} (CA : ClOk K mg ca) {f : Addr} {fd : FuncData} (F : Fun K "_law_bows_of" "_law_bows_of" s__law_bows_of f fd) {f0 : Addr} {fd0 : FuncData} (d__law_mate : Def P w K mg base "_law_mate" ["_law_text_here", "_law_at"] 1 (sp__law_mate K ca) f0 fd0) (m_range : mg "range" = none) (m_len : mg "len" = none) : FnOk P w K mg base CX0 2 f fd ["_law_text_here"] (sp__law_bows_of K ca) := by
  refine F.ok sc__law_bows_of (fun vs H Q E h => ?_) (fun cdv A outer s H vs Q E hr h => ?_)
  · obtain ⟨t, rfl, hz, q⟩ := h
    rfl
  obtain ⟨t, rfl, hz, q⟩ := h
  refine ⟨_, pss_one (ps_ret (pe_comp rfl (pi_range1 rfl m_range (pa_cons (pe_callB call_len_str rfl m_len bb_len (pa_cons (pv 0) pa_nil)) pa_nil)) rfl rfl rfl rfl (N := ["_law_k", "_law_text_here"]) (.own (.cap (j := 0) rfl rfl rfl .nil)) (fun _ _ _ _ _ _ => (pg_name (i := 0) (by show List.Nodup (["_law_k", "_law_text_here"] : List Str); decide +kernel) rfl (Or.inl rfl))) (fun _ _ _ _ _ _ => (pts_one (pt_cmpR op_eq (pe_ix ix_str (pv 1) (pv 0) (fun _ _ => rfl)) pe_str (nomark _)))) (fun _ _ _ _ _ _ => (pe_tup (pa_cons (pv 0) (pa_cons (pcall d__law_mate hr (pa_cons (pv 1) (pa_cons (pv 0) pa_nil))) pa_nil)))))), ?_⟩
  have lc := cps_len t
  have lz : t.length ≤ sizeLine := sz (by omega)
  refine ⟨_, rfl, t, rfl, lz, _, rfl, by omega, by omega, fun D hD => comp_rangeW (lo := 0) (n := ((t.length : Nat) : Int).toNat) (fun i ys H' => Same H H' ∧ H' D = some (.lst ys) ∧ Prs H' ys (bwU t.cps.toList i) ∧ ys.length ≤ i) (sz (by omega)) ⟨Same.new (Same.refl H) hD _, upd_same, .nil, Nat.le_refl _⟩ (fun i ys H' _ h => h.2.2.2) ?_ ?_⟩
  · rintro i ys H5 R R0 hi ⟨s5, hD5, pr, ly⟩ hR hR0
    have hk : i < t.cps.toList.length := by omega
    have hat := at_code (x := t) (i := (0 : Int) + (i : Int)) (by omega) (by rw [show ((0 : Int) + (i : Int)).toNat = i by omega]; exact List.getElem?_eq_getElem hk)
    have bs := bwU_succ t.cps.toList i
    rw [show t.cps.toList.getD i 0 = t.cps.toList[i] by rw [List.getD_eq_getElem?_getD, List.getElem?_eq_getElem hk]; rfl] at bs
    generalize t.cps.toList[i] = c at hat bs
    refine ⟨Ext.set rfl, ⟨_, rfl, _, rfl, t, _, c, rfl, rfl, lz, hat, rfl, _, rfl, ?_⟩⟩
    refine iteB (dec40 c) ?_
    by_cases hc : c = 40
    · rw [if_pos hc] at bs
      refine iteP hc ⟨_, rfl, _, rfl, _, rfl, t, i, (by rw [show (0 : Int) + (i : Int) = (i : Int) by omega]; rfl), hz, by omega, (by show 2 ≤ sizeLine; decide), fun t1 ht1 => ?_⟩
      have n1 : D ≠ t1 := ne_of_none hD5 ht1
      have hy1 := (upd_ne (o := .tup [.int ((0 : Int) + (i : Int)), .int (mateOf t.cps.toList i)]) n1).trans hD5
      refine hR _ _ hy1 ⟨(Same.new s5 ht1 _).upd hD _, upd_same, ?_, by rw [List.length_append]; exact Nat.succ_le_succ ly⟩
      have := ((pr.updN ht1 (.tup [.int ((0 : Int) + (i : Int)), .int (mateOf t.cps.toList i)])).snoc (t := t1) (p := ((0 : Int) + (i : Int), mateOf t.cps.toList i)) upd_same).updL hy1 (.lst (ys ++ [.ref t1]))
      rw [bs]
      have e0 : ((0 : Int) + (i : Int), mateOf t.cps.toList i) = ((i : Int), mateOf t.cps.toList i) := by rw [show (0 : Int) + (i : Int) = (i : Int) by omega]
      rw [e0] at this
      exact this
    · rw [if_neg hc, List.append_nil] at bs
      exact iteN hc (hR0 _ ⟨s5, hD5, by rw [bs]; exact pr, by omega⟩)
  · rintro ys H5 ⟨s5, hD5, pr, _⟩
    rw [show ((t.length : Nat) : Int).toNat = t.length by omega] at pr
    exact q _ _ s5 hD ⟨ys, hD5, pr⟩
theorem ok_brackets_to_bows {ca : ClA} (CA : ClOk K mg ca) {f : Addr} {fd : FuncData} (F : Fun K "brackets_to_bows" "brackets_to_bows" s_brackets_to_bows f fd) {fd0 : FuncData} (d_Brackets____init__ : MDef P w K mg base ["self"] 5 (sp_Brackets____init__ K ca) ca.f_Brackets____init__ fd0) {fd1 : FuncData} (d_Brackets__Family_refuse_other : MDef P w K mg base ["self", "thing"] 3 (sp_Brackets__Family_refuse_other K ca) ca.f_Brackets__Family_refuse_other fd1) (m_enumerate : mg "enumerate" = none) (m_sorted : mg "sorted" = none) : FnOk P w K mg base CX0 7 f fd ["thing"] (sp_brackets_to_bows K ca) := by
  refine F.ok sc_brackets_to_bows (fun vs H Q E h => ?_) (fun cdv A outer s H vs Q E hr h => ?_)
  · obtain ⟨t, rfl, hB, hz, q⟩ := h
    rfl
  obtain ⟨t, rfl, hB, hz, q⟩ := h
  refine ⟨_, pss_cons (ps_expr (pmeth (pmake0 CA.mk_Brackets CA.m_Brackets d_Brackets____init__ hr) CA.c_Brackets CA.mt_Brackets_refuse_other d_Brackets__Family_refuse_other hr (pa_cons (pv 0) pa_nil)))
    (pss_cons (ps_set (i := 1) sc_brackets_to_bows.nd rfl (Or.inl rfl) (pe_lst pa_nil))
    (pss_cons (ps_set (i := 2) sc_brackets_to_bows.nd rfl (Or.inl rfl) (pe_lst pa_nil))
    (pss_cons (ps_for PassesOwn.never rfl (pi_enumS rfl m_enumerate (pa_cons (pv 0) pa_nil)) (pg_tup rfl (pgs_cons (pg_name (i := 3) sc_brackets_to_bows.nd rfl (Or.inl rfl)) (pgs_cons (pg_name (i := 4) sc_brackets_to_bows.nd rfl (Or.inl rfl)) pgs_nil))) (pss_one (ps_if (pt_cmpR op_eq (pv 4) pe_str (nomark _)) (pss_one (ps_expr (pe_bm PySem.F.plainAttrs_list PySem.F.slot_list_append PySem.F.type_list_append mt_append (pv 2) (pa_cons (pv 3) pa_nil)))) (pss_one (ps_expr (pe_bm PySem.F.plainAttrs_list PySem.F.slot_list_append PySem.F.type_list_append mt_append (pv 1) (pa_cons (pe_tup (pa_cons (pe_bm0 PySem.F.plainAttrs_list PySem.F.slot_list_pop PySem.F.type_list_pop mt_pop (pv 2)) (pa_cons (pv 3) pa_nil))) pa_nil)))))))
    (pss_one (ps_ret (pe_callB call_sortedP rfl m_sorted bb_sorted (pa_cons (pv 1) pa_nil))))))), ?_⟩
  intro x dx nx ndx nex
  refine ⟨x, dx, rfl, upd_same, fun fsx Hx1 ex fx => ⟨rfl, ?_⟩⟩
  have sx : Same H Hx1 := by rw [ex]; exact ((Same.new (Same.refl H) ndx _).upd nx _).upd nx _
  have hx : Hx1 x = some (.ins ca.C_Brackets dx fsx) := by rw [ex]; exact upd_same
  refine ⟨x, dx, fsx, rfl, hx, fx.no "refuse_other" (by decide) (by decide), _, rfl, x, dx, fsx, t, rfl, hx, fx.no "is_one" (by decide) (by decide), hB, fun H2 s2 => ?_⟩
  have t2 := sx.trans s2
  have lc := cps_len t
  have tc : t.cps.size = t.length := rfl
  refine ⟨Nat.zero_le _, fun pf hpf => ⟨Nat.zero_le _, fun ps hps => ?_⟩⟩
  have s3 := Same.new t2 hpf (.lst [])
  have fpf := t2.free hpf
  have fps := s3.free hps
  have nfs : pf ≠ ps := ne_of_none upd_same hps
  refine ⟨_, rfl, t, rfl, for_enumS (x := t) (fun i σ H' => ∃ (o1 o2 : Option V) (fd : List Pair) (sk : List Int) (d : Nat), σ = [some (.str t), some (.ref pf), some (.ref ps), o1, o2] ∧ Same H H' ∧ PLs H' pf fd ∧ H' ps = some (.lst (sk.map V.int)) ∧ Wk t.cps.toList i fd sk ∧ sk.length = d ∧ clo d (t.cps.toList.drop i) = true ∧ 2 * fd.length + d = i) ⟨_, _, [], [], 0, rfl, Same.new s3 hps _, ⟨[], (upd_ne nfs).trans upd_same, .nil⟩, upd_same, Wk.nil _, rfl, hB, rfl⟩ ?_ ?_⟩
  · rintro i c σ H3 T hc ⟨o1, o2, fd, sk, d, rfl, sm, ⟨zs, hf, pz⟩, hs, wk, ld, cl, len⟩ hT
    have hi : i < t.cps.toList.length := by
      have := (Array.getElem?_eq_some_iff.mp hc).1
      simpa using this
    have hci : t.cps.toList[i] = c := by
      have := (Array.getElem?_eq_some_iff.mp hc).2
      simpa using this
    have hcd : t.cps.toList.getD i 0 = c := by rw [List.getD_eq_getElem?_getD, List.getElem?_eq_getElem hi]; exact hci
    have lz := pz.length
    have lsm : (sk.map V.int).length = sk.length := List.length_map _
    have nfT : pf ≠ T := ne_of_none hf hT
    have nsT : ps ≠ T := ne_of_none hs hT
    have sm4 := Same.new sm hT (.tup [.int i, .str ⟨#[c]⟩])
    have hf4 := (upd_ne (o := .tup [.int i, .str ⟨#[c]⟩]) nfT).trans hf
    have hs4 := (upd_ne (o := .tup [.int i, .str ⟨#[c]⟩]) nsT).trans hs
    have pz4 := pz.updN hT (.tup [.int i, .str ⟨#[c]⟩])
    have hT4 : upd H3 T (.tup [.int i, .str ⟨#[c]⟩]) T = some (.tup [.int i, .str ⟨#[c]⟩]) := upd_same
    generalize upd H3 T (.tup [.int i, .str ⟨#[c]⟩]) = H4 at sm4 hf4 hs4 pz4 hT4 ⊢
    refine ⟨T, _, rfl, SqT.of hT4, rfl, _, _, rfl, _, _, rfl, rfl, ?_⟩
    refine ⟨_, rfl, rfl, _, rfl, iteB (dec40 c) ?_⟩
    rcases clo_step hi cl with ⟨g1, g2⟩ | ⟨g1, e, rfl, g2⟩
    · have c40 : c = 40 := by rw [← hci]; exact g1
      refine iteP c40 ⟨_, rfl, .inl ⟨rfl, _, SqL.of hs4⟩, _, rfl, ps, _, _, rfl, rfl, hs4, by rw [lsm]; exact sz' (by omega), ?_⟩
      refine ⟨_, _, fd, sk ++ [(i : Int)], d + 1, rfl, sm4.upd fps _, ⟨zs, (upd_ne nfs).trans hf4, pz4.updL hs4 _⟩, by rw [upd_same, List.map_append]; rfl, wk.up hi (by rw [hcd]; exact c40), by rw [List.length_append, ld]; rfl, g2, by omega⟩
    · have c41 : c = 41 := by rw [← hci]; exact g1
      obtain ⟨sk0, m, rfl⟩ : ∃ sk0 m, sk = sk0 ++ [m] := by
        have hne : sk ≠ [] := by intro z; subst z; simp at ld
        exact ⟨sk.dropLast, sk.getLast hne, (List.dropLast_concat_getLast hne).symm⟩
      have hlast : ((sk0 ++ [m]).map V.int)[((sk0 ++ [m]).map V.int).length - 1]? = some (.int m) := by
        rw [List.length_map, List.length_append, List.map_append]
        show (sk0.map V.int ++ [V.int m])[sk0.length + 1 - 1]? = _
        rw [Nat.add_sub_cancel, List.getElem?_append_right (by simp)]
        simp
      have hdl : ((sk0 ++ [m]).map V.int).dropLast = sk0.map V.int := by rw [List.map_append]; exact List.dropLast_concat
      have ld0 : sk0.length = e := by simpa using ld
      refine iteN (by rw [c41]; decide) ⟨_, rfl, .inl ⟨rfl, _, SqL.of hf4⟩, _, rfl, .inl ⟨rfl, _, SqL.of hs4⟩, ps, _, _, rfl, rfl, hs4, hlast, ?_⟩
      rw [hdl]
      have hf5 := (upd_ne (o := .lst (sk0.map V.int)) nfs).trans hf4
      have pz5 := pz4.updL hs4 (.lst (sk0.map V.int))
      have sm5 := sm4.upd fps (.lst (sk0.map V.int))
      have hs5 : upd H4 ps (.lst (sk0.map V.int)) ps = some (.lst (sk0.map V.int)) := upd_same
      generalize upd H4 ps (.lst (sk0.map V.int)) = H5 at hf5 pz5 sm5 hs5 ⊢
      refine ⟨_, rfl, (by show 2 ≤ sizeLine; decide), fun u hu => ?_⟩
      have nfu : pf ≠ u := ne_of_none hf5 hu
      have nsu : ps ≠ u := ne_of_none hs5 hu
      have hf6 := (upd_ne (o := .tup [.int m, .int i]) nfu).trans hf5
      have pz6 := (pz5.updN hu (.tup [.int m, .int i])).snoc (t := u) (p := (m, (i : Int))) upd_same
      have hs6 := (upd_ne (o := .tup [.int m, .int i]) nsu).trans hs5
      have sm6 := Same.new sm5 hu (.tup [.int m, .int i])
      refine ⟨pf, _, _, rfl, rfl, hf6, sz' (by omega), ?_⟩
      refine ⟨_, _, fd ++ [(m, (i : Int))], sk0, e, rfl, sm6.upd fpf _, ⟨_, upd_same, pz6.updL hf6 _⟩, (upd_ne (Ne.symm nfs)).trans hs6, wk.down hi (by rw [hcd]; exact c41), ld0, g2, by rw [List.length_append]; show 2 * (fd.length + 1) + e = i + 1; omega⟩
  · rintro σ H3 ⟨o1, o2, fd, sk, d, rfl, sm, hf, hs, wk, ld, cl, len⟩
    have d0 := clo_end (by rw [lc]; exact Nat.le_refl _) cl
    subst d0
    obtain rfl : sk = [] := List.eq_nil_of_length_eq_zero ld
    refine ⟨_, rfl, pf, fd, rfl, hf, by omega, fun pq qs H4 s4 f4 h4 hp hs4 => ?_⟩
    have e := wk.sorted hp hs4
    rw [tc] at e wk
    rw [e] at h4
    exact q pq H4 (sm.trans s4) (sm.free f4) h4 wk.bows
theorem ok__law_pairs {ca : ClA} (CA : ClOk K mg ca) {f : Addr} {fd : FuncData} (F : Fun K "_law_pairs" "_law_pairs" s__law_pairs f fd) {f0 : Addr} {fd0 : FuncData} (d__law_whole : Def P w K mg base "_law_whole" ["_law_found"] 1 (sp__law_whole K ca) f0 fd0) (m_isinstance : mg "isinstance" = none) (m_list : mg "list" = none) (m_len : mg "len" = none) (m_range : mg "range" = none) (m_tuple : mg "tuple" = none) : FnOk P w K mg base CX0 2 f fd ["_law_found", "_law_due"] (sp__law_pairs K ca) := by
  refine F.ok sc__law_pairs (fun vs H Q E h => ?_) (fun cdv A outer s H vs Q E hr h => ?_)
  · obtain ⟨p, r, ps, rfl, hp, hr2, hz, q⟩ := h
    rfl
  obtain ⟨p, r, ps, rfl, hp, hr2, hz, q⟩ := h
  refine ⟨_, pss_cons (ps_if (PW.pt (pw_or (pt_not (pt_val (pe_callB call_isinst rfl m_isinstance bb_isinstance (pa_cons (pv 0) (pa_cons (pe_bltn (v := .ty "list") rfl m_list bb_list rfl) pa_nil))))) (pw_or1 (pt_cmpR op_ne (pe_callB call_len_seq rfl m_len bb_len (pa_cons (pv 0) pa_nil)) (pe_callB call_len_seq rfl m_len bb_len (pa_cons (pv 1) pa_nil)) (nomark _))))) (pss_one (ps_ret pe_bl)) pss_nil)
    (pss_cons (ps_for PassesOwn.never rfl (pi_range1 rfl m_range (pa_cons (pe_callB call_len_seq rfl m_len bb_len (pa_cons (pv 1) pa_nil)) pa_nil)) (pg_name (i := 2) sc__law_pairs.nd rfl (Or.inl rfl)) (pss_cons (ps_if (PW.pt (pw_or (pt_not (pt_val (pe_callB call_isinst rfl m_isinstance bb_isinstance (pa_cons (pe_ix ix_list (pv 0) (pv 2) (fun _ _ => rfl)) (pa_cons (pe_bltn (v := .ty "tuple") rfl m_tuple bb_tuple rfl) pa_nil))))) (pw_or1 (pt_cmpR op_ne (pe_callB call_len_seq rfl m_len bb_len (pa_cons (pe_ix ix_list (pv 0) (pv 2) (fun _ _ => rfl)) pa_nil)) pe_int (nomark _))))) (pss_one (ps_ret pe_bl)) pss_nil)
    (pss_one (ps_if (PW.pt (pw_or (pt_not (pt_val (pcall d__law_whole hr (pa_cons (pe_ix ix_tup (pe_ix ix_list (pv 0) (pv 2) (fun _ _ => rfl)) pe_int (fun _ _ => rfl)) pa_nil)))) (pw_or (pt_not (pt_val (pcall d__law_whole hr (pa_cons (pe_ix ix_tup (pe_ix ix_list (pv 0) (pv 2) (fun _ _ => rfl)) pe_int (fun _ _ => rfl)) pa_nil)))) (pw_or1 (pt_cmpR ((op_neD (hu100 hr)).or (op_neF (hu100 hr))) (pe_ix ix_list (pv 0) (pv 2) (fun _ _ => rfl)) (pe_ix ix_list (pv 1) (pv 2) (fun _ _ => rfl)) (nomark _)))))) (pss_one (ps_ret pe_bl)) pss_nil))))
    (pss_one (ps_ret pe_bl))), ?_⟩
  obtain ⟨xs, ep, lx, px⟩ := hp.len
  obtain ⟨ys, er, ly, py⟩ := hr2.len
  refine ⟨_, rfl, _, _, _, _, _, rfl, relTy, .lst ep, kit_list_list, _, rfl, iteF ⟨_, rfl, p, _, rfl, .inl (SqL.of ep), _, rfl, r, _, rfl, .inl (SqL.of er), rfl, _, rfl, iteNS (congrArg V.int (by omega)) ?_⟩⟩
  refine ⟨_, rfl, r, _, rfl, .inl (SqL.of er), _, rfl, by omega, by omega, for_range (lo := 0) (n := ((ys.length : Nat) : Int).toNat) (fun i σ H' => H = H' ∧ ∃ o, σ = [some (.ref p), some (.ref r), o]) ⟨rfl, _, rfl⟩ ?_ ?_⟩
  · rintro i σ H' hi ⟨rfl, o, rfl⟩
    have hix : i < xs.length := by omega
    have hiy : i < ys.length := by omega
    obtain ⟨p1, t1, e1, hx1, h1⟩ := px.get (List.getElem?_eq_getElem hix)
    obtain ⟨p2, t2, e2, hy2, h2⟩ := py.get (List.getElem?_eq_getElem hiy)
    have ep12 : p1 = p2 := by rw [e1] at e2; injection e2
    subst ep12
    have a1 : atI xs ((0 : Int) + (i : Int)) = some (.ref t1) := by
      have := atI_nat (xs := xs) (j := i) (by rw [List.getElem?_eq_getElem hix, hx1])
      rw [show (0 : Int) + (i : Int) = (i : Int) by omega]
      exact this
    have a2 : atI ys ((0 : Int) + (i : Int)) = some (.ref t2) := by
      have := atI_nat (xs := ys) (j := i) (by rw [List.getElem?_eq_getElem hiy, hy2])
      rw [show (0 : Int) + (i : Int) = (i : Int) by omega]
      exact this
    have b0 : atI [V.int p1.1, V.int p1.2] 0 = some (.int p1.1) := rfl
    have b1 : atI [V.int p1.1, V.int p1.2] 1 = some (.int p1.2) := rfl
    refine ⟨_, rfl, _, rfl, p, _, _, _, rfl, rfl, SqL.of ep, a1, _, _, _, _, _, rfl, relTy, .tup h1, kit_tuple_tuple, _, rfl, iteF ⟨_, rfl, _, rfl, p, _, _, _, rfl, rfl, SqL.of ep, a1, t1, _, rfl, .inr (SqT.of h1), rfl, _, rfl, iteNS rfl ?_⟩⟩
    refine ⟨_, rfl, _, rfl, p, _, _, _, rfl, rfl, SqL.of ep, a1, t1, _, _, _, rfl, rfl, SqT.of h1, b0, _, rfl, _, rfl, iteF ⟨_, rfl, _, rfl, p, _, _, _, rfl, rfl, SqL.of ep, a1, t1, _, _, _, rfl, rfl, SqT.of h1, b1, _, rfl, _, rfl, iteF ?_⟩⟩
    refine ⟨_, rfl, _, rfl, p, _, _, _, rfl, rfl, SqL.of ep, a1, _, rfl, _, rfl, r, _, _, _, rfl, rfl, SqL.of er, a2, ?_⟩
    by_cases et : t1 = t2
    · subst et
      exact .inr ⟨t1, _, _, rfl, rfl, h1, _, rfl, iteF ⟨rfl, _, rfl⟩⟩
    · refine .inl ⟨1, _, by decide, EqD.two et h1 h2, ⟨t1, t2, rfl, rfl, et⟩, _, rfl, ?_⟩
      rw [decide_eq_true (rfl : p1.1 = p1.1), decide_eq_true (rfl : p1.2 = p1.2)]
      exact iteF ⟨rfl, _, rfl⟩
  · rintro σ H' ⟨rfl, o, rfl⟩
    exact q
theorem ok_Bows__Family___init__ {ca : ClA} (CA : ClOk K mg ca) {fd : FuncData} (F : Fun K "__init__" "Family.__init__" s_Bows__Family___init__ ca.f_Bows__Family___init__ fd) : FnOk P w K mg base CX0 1 ca.f_Bows__Family___init__ fd ["self", "word", "least"] (sp_Bows__Family___init__ K ca) := by
  refine F.ok sc_Bows__Family___init__ (fun vs H Q E h => ?_) (fun cdv A outer s H vs Q E hr h => ?_)
  · obtain ⟨x, dx, w, l, rfl, hx, q⟩ := h
    rfl
  obtain ⟨x, dx, w, l, rfl, hx, q⟩ := h
  refine ⟨_, pss_cons (ps_fld (pv 0) (pv 1) rfl)
    (pss_one (ps_fld (pv 0) (pv 2) rfl)), ?_⟩
  refine ⟨_, rfl, _, rfl, x, ca.C_Bows, dx, _, rfl, hx, CA.c_Bows, CA.na_Bows_word, (by show 0 < 1000; decide), ?_⟩
  refine ⟨_, rfl, _, rfl, x, ca.C_Bows, dx, _, rfl, upd_same, CA.c_Bows, CA.na_Bows_least, (by show 1 < 1000; decide), ?_⟩
  exact q _ _ upd_upd (flds_mk w l)
theorem ok_Bows__SplitFamily___init__ {ca : ClA} (CA : ClOk K mg ca) {fd : FuncData} (F : Fun K "__init__" "SplitFamily.__init__" s_Bows__SplitFamily___init__ ca.f_Bows__SplitFamily___init__ fd) {fd0 : FuncData} (d_Bows__Family___init__ : MDef P w K mg base ["self", "word", "least"] 1 (sp_Bows__Family___init__ K ca) ca.f_Bows__Family___init__ fd0) : FnOk P w K mg base CX0 3 ca.f_Bows__SplitFamily___init__ fd ["self", "word"] (sp_Bows__SplitFamily___init__ K ca) := by
  refine F.ok sc_Bows__SplitFamily___init__ (fun vs H Q E h => ?_) (fun cdv A outer s H vs Q E hr h => ?_)
  · obtain ⟨x, dx, w, rfl, hx, q⟩ := h
    rfl
  obtain ⟨x, dx, w, rfl, hx, q⟩ := h
  refine ⟨_, pss_one (ps_expr (pcls CA.m_Family CA.cm_Family___init___Bows d_Bows__Family___init__ hr (pa_cons (pv 0) (pa_cons (pv 1) (pa_cons pe_int pa_nil))))), ?_⟩
  exact ⟨_, rfl, _, rfl, x, dx, w, 0, rfl, hx, fun fs H' e f => q fs H' e f⟩
theorem ok_Bows____init__ {ca : ClA} (CA : ClOk K mg ca) {fd : FuncData} (F : Fun K "__init__" "Bows.__init__" s_Bows____init__ ca.f_Bows____init__ fd) {fd0 : FuncData} (d_Bows__SplitFamily___init__ : MDef P w K mg base ["self", "word"] 3 (sp_Bows__SplitFamily___init__ K ca) ca.f_Bows__SplitFamily___init__ fd0) : FnOk P w K mg base CX0 5 ca.f_Bows____init__ fd ["self"] (sp_Bows____init__ K ca) := by
  refine F.ok sc_Bows____init__ (fun vs H Q E h => ?_) (fun cdv A outer s H vs Q E hr h => ?_)
  · obtain ⟨x, dx, rfl, hx, q⟩ := h
    rfl
  obtain ⟨x, dx, rfl, hx, q⟩ := h
  refine ⟨_, pss_one (ps_expr (pcls CA.m_SplitFamily CA.cm_SplitFamily___init___Bows d_Bows__SplitFamily___init__ hr (pa_cons (pv 0) (pa_cons pe_str pa_nil)))), ?_⟩
  exact ⟨_, rfl, x, dx, _, rfl, hx, fun fs H' e f => q fs H' e f⟩
theorem ok_each_once {ca : ClA} (CA : ClOk K mg ca) {f : Addr} {fd : FuncData} (F : Fun K "each_once" "each_once" s_each_once f fd) (m_sorted : mg "sorted" = none) (m_list : mg "list" = none) (m_range : mg "range" = none) (m_len : mg "len" = none) : FnOk P w K mg base CX0 1 f fd ["numbers"] (sp_each_once K ca) := by
  refine F.ok sc_each_once (fun vs H Q E h => ?_) (fun cdv A outer s H vs Q E hr h => ?_)
  · obtain ⟨l, ns, rfl, hl, h64, q⟩ := h
    rfl
  obtain ⟨l, ns, rfl, hl, h64, q⟩ := h
  refine ⟨_, pss_one (ps_ret (pe_cmpR (op_eq_list (hu0 hr)) (pe_callB call_sortedN rfl m_sorted bb_sorted (pa_cons (pv 0) pa_nil)) (pe_lr1 rfl rfl m_list rfl m_range (pa_cons (pe_callB call_len_seq rfl m_len bb_len (pa_cons (pv 0) pa_nil)) pa_nil)) (nomark _))), ?_⟩
  have lm : (ns.map V.int).length = ns.length := List.length_map _
  refine ⟨_, rfl, l, ns, rfl, SqL.of hl, h64, fun ps ms hps hp hs => ?_⟩
  have s1 := Same.new (Same.refl H) hps (.lst (ms.map V.int))
  have hm1 : upd H ps (.lst (ms.map V.int)) ps = some (.lst (ms.map V.int)) := upd_same
  generalize upd H ps (.lst (ms.map V.int)) = H1 at s1 hm1 ⊢
  refine ⟨_, rfl, l, _, rfl, .inl (SqL.of (s1 _ _ hl)), _, rfl, by omega, by omega, by omega, fun pr hpr => ?_⟩
  have s2 := Same.new (Same.refl H1) hpr (.lst (rngV 0 (((ns.map V.int).length : Nat) : Int).toNat))
  refine ⟨ps, pr, _, _, rfl, rfl, SqL.of (s2 _ _ hm1), SqL.of upd_same, flat_ints ms, ?_, ?_⟩
  · rw [rngV_zero]; exact flat_ints _
  have e : eqL (ms.map V.int) (rngV 0 (((ns.map V.int).length : Nat) : Int).toNat) = eachB ns := by
    rw [rngV_zero, eqL_ints, eachB_sorted hp hs, show (((ns.map V.int).length : Nat) : Int).toNat = ns.length by omega]
  have last : ∀ b : Bool, b = eachB ns → Q (.bl b) (upd H1 pr (.lst (rngV 0 (((ns.map V.int).length : Nat) : Int).toNat))) := fun b z => by rw [z]; exact q _ (s1.trans s2)
  exact last _ e
theorem ok_flat {ca : ClA} (CA : ClOk K mg ca) {f : Addr} {fd : FuncData} (F : Fun K "flat" "flat" s_flat f fd) : FnOk P w K mg base CX0 1 f fd ["rows"] (sp_flat K ca) := by
  refine F.ok sc_flat (fun vs H Q E h => ?_) (fun cdv A outer s H vs Q E hr h => ?_)
  · obtain ⟨l, ps, rfl, hl, hz, q⟩ := h
    rfl
  obtain ⟨l, ps, rfl, hl, hz, q⟩ := h
  refine ⟨_, pss_cons (ps_set (i := 1) sc_flat.nd rfl (Or.inl rfl) (pe_lst pa_nil))
    (pss_cons (ps_for PassesOwn.never rfl (pi_list (pv 0)) (pg_name (i := 2) sc_flat.nd rfl (Or.inl rfl)) (pss_one (ps_expr (pe_bm PySem.F.plainAttrs_list PySem.F.slot_list_extend PySem.F.type_list_extend mt_extT (pv 1) (pa_cons (pv 2) pa_nil)))))
    (pss_one (ps_ret (pv 1)))), ?_⟩
  obtain ⟨xs, el, lxs, pr⟩ := hl.len
  refine ⟨Nat.zero_le _, fun pf hpf => ?_⟩
  have s1 := Same.new (Same.refl H) hpf (.lst [])
  refine ⟨_, rfl, l, rfl, ⟨_, SqL.of (s1 _ _ el)⟩, for_list (xs := xs) (fun i σ H' => ∃ (o1 : Option V), σ = [some (.ref l), some (.ref pf), o1] ∧ Same H H' ∧ H' pf = some (.lst ((flatP (ps.take i)).map V.int))) ⟨_, rfl, s1, upd_same⟩ (fun i σ H' _ h => SqL.of (h.choose_spec.2.1 _ _ el)) ?_ ?_⟩
  · rintro i v σ H2 hv ⟨o1, rfl, sm, hf⟩
    obtain ⟨pp, tt, hpp, rfl, htt⟩ := pr.get hv
    have hz2 : ((flatP (ps.take i)).map V.int).length ≤ 2000 := by
      rw [List.length_map, flatP_len, List.length_take]
      omega
    refine ⟨_, rfl, .inl ⟨rfl, _, SqL.of hf⟩, _, rfl, pf, tt, _, _, rfl, rfl, hf, SqT.of (sm _ _ htt), (by show _ + 2 ≤ _; exact sz (by omega)), ?_⟩
    refine ⟨_, rfl, sm.upd hpf _, ?_⟩
    rw [upd_same, List.take_add_one, hpp, flatP_app, List.map_append]
    rfl
  · rintro σ H2 ⟨o1, rfl, sm, hf⟩
    rw [List.take_of_length_le (by omega)] at hf
    exact ⟨_, rfl, q pf H2 sm hpf hf⟩
theorem ok_any_cross {ca : ClA} (CA : ClOk K mg ca) {f : Addr} {fd : FuncData} (F : Fun K "any_cross" "any_cross" s_any_cross f fd) : FnOk P w K mg base CX0 1 f fd ["pairs"] (sp_any_cross K ca) := by
  refine F.ok sc_any_cross (fun vs H Q E h => ?_) (fun cdv A outer s H vs Q E hr h => ?_)
  · obtain ⟨l, ps, rfl, hl, q⟩ := h
    rfl
  obtain ⟨l, ps, rfl, hl, q⟩ := h
  refine ⟨_, pss_cons (ps_for PassesOwn.never rfl (pi_list (pv 0)) (pg_tup rfl (pgs_cons (pg_name (i := 1) sc_any_cross.nd rfl (Or.inl rfl)) (pgs_cons (pg_name (i := 2) sc_any_cross.nd rfl (Or.inl rfl)) pgs_nil))) (pss_one (ps_for PassesOwn.never rfl (pi_list (pv 0)) (pg_tup rfl (pgs_cons (pg_name (i := 3) sc_any_cross.nd rfl (Or.inl rfl)) (pgs_cons (pg_name (i := 4) sc_any_cross.nd rfl (Or.inl rfl)) pgs_nil))) (pss_one (ps_if (pt_ch3 op_lt op_lt op_lt (pv 1) (pv 3) (pv 2) (pv 4)) (pss_one (ps_ret pe_bl)) pss_nil)))))
    (pss_one (ps_ret pe_bl)), ?_⟩
  obtain ⟨xs, el, lxs, pr⟩ := hl.len
  refine ⟨_, rfl, l, rfl, ⟨_, SqL.of el⟩, for_list (xs := xs) (fun i σ H' => ∃ (o1 o2 o3 o4 : Option V), σ = [some (.ref l), o1, o2, o3, o4] ∧ H = H' ∧ ∀ p ∈ ps.take i, ps.any (crsP p) = false) ⟨_, _, _, _, rfl, rfl, by simp⟩ (fun i σ H' _ h => by obtain ⟨_, _, _, _, _, rfl, _⟩ := h; exact SqL.of el) ?_ ?_⟩
  · rintro i v σ H2 hv ⟨o1, o2, o3, o4, rfl, rfl, al⟩
    obtain ⟨pp, tt, hpp, rfl, htt⟩ := pr.get hv
    refine ⟨tt, _, rfl, SqT.of htt, rfl, _, _, rfl, _, _, rfl, rfl, ?_⟩
    refine ⟨_, rfl, l, rfl, ⟨_, SqL.of el⟩, for_list (xs := xs) (fun j σ H' => ∃ (o3 o4 : Option V), σ = [some (.ref l), some (.int pp.1), some (.int pp.2), o3, o4] ∧ H = H' ∧ ∀ r ∈ ps.take j, crsP pp r = false) ⟨_, _, rfl, rfl, by simp⟩ (fun i σ H' _ h => by obtain ⟨_, _, _, rfl, _⟩ := h; exact SqL.of el) ?_ ?_⟩
    · rintro j v σ H3 hv ⟨o3, o4, rfl, rfl, al2⟩
      obtain ⟨rr, t2, hrr, rfl, ht2⟩ := pr.get hv
      refine ⟨t2, _, rfl, SqT.of ht2, rfl, _, _, rfl, _, _, rfl, rfl, ?_⟩
      have next : crsP pp rr = false → ∀ r ∈ ps.take (j + 1), crsP pp r = false := fun hc r hr => by
        rw [List.take_add_one, hrr] at hr
        rcases List.mem_append.mp hr with z | z
        · exact al2 r z
        · have : r = rr := by simpa using z
          rw [this]; exact hc
      refine ⟨_, rfl, _, rfl, _, _, rfl, rfl, _, rfl, ?_⟩
      by_cases c1 : pp.1 < rr.1
      · refine iteP c1 ⟨_, rfl, _, _, rfl, rfl, _, rfl, ?_⟩
        by_cases c2 : rr.1 < pp.2
        · refine iteP c2 ⟨_, rfl, _, _, rfl, rfl, _, rfl, ?_⟩
          by_cases c3 : pp.2 < rr.2
          · refine iteP c3 ?_
            have : crossB ps = true := crossB_iff.mpr ⟨pp, List.mem_of_getElem? hpp, rr, List.mem_of_getElem? hrr, c1, c2, c3⟩
            rw [this] at q
            exact q
          · exact iteN c3 ⟨_, _, rfl, rfl, next (by unfold crsP; simp [c3])⟩
        · exact iteN c2 ⟨_, rfl, iteF ⟨_, _, rfl, rfl, next (by unfold crsP; simp [c2])⟩⟩
      · exact iteN c1 ⟨_, rfl, iteF ⟨_, _, rfl, rfl, next (by unfold crsP; simp [c1])⟩⟩
    · rintro σ H3 ⟨o3, o4, rfl, rfl, al2⟩
      rw [List.take_of_length_le (by omega)] at al2
      refine ⟨_, _, _, _, rfl, rfl, fun p hp => ?_⟩
      rw [List.take_add_one, hpp] at hp
      rcases List.mem_append.mp hp with z | z
      · exact al p z
      · have : p = pp := by simpa using z
        rw [this, List.any_eq_false]
        intro r hr
        rw [al2 r hr]
        decide
  · rintro σ H2 ⟨o1, o2, o3, o4, rfl, rfl, al⟩
    rw [List.take_of_length_le (by omega)] at al
    have : crossB ps = false := by
      unfold crossB
      rw [List.any_eq_false]
      intro p hp
      rw [al p hp]
      decide
    rw [this] at q
    exact q
theorem ok_Bows__is_one {ca : ClA} (CA : ClOk K mg ca) {fd : FuncData} (F : Fun K "is_one" "Bows.is_one" s_Bows__is_one ca.f_Bows__is_one fd) {f0 : Addr} {fd0 : FuncData} (d_each_once : Def P w K mg base "each_once" ["numbers"] 1 (sp_each_once K ca) f0 fd0) {f1 : Addr} {fd1 : FuncData} (d_flat : Def P w K mg base "flat" ["rows"] 1 (sp_flat K ca) f1 fd1) {f2 : Addr} {fd2 : FuncData} (d_any_cross : Def P w K mg base "any_cross" ["pairs"] 1 (sp_any_cross K ca) f2 fd2) (m_sorted : mg "sorted" = none) (m_all : mg "all" = none) : FnOk P w K mg base CX0 2 ca.f_Bows__is_one fd ["self", "thing"] (sp_Bows__is_one K ca) := by
  refine F.ok sc_Bows__is_one (fun vs H Q E h => ?_) (fun cdv A outer s H vs Q E hr h => ?_)
  · obtain ⟨x, l, ps, rfl, hl, hz, q⟩ := h
    rfl
  obtain ⟨x, l, ps, rfl, hl, hz, q⟩ := h
  refine ⟨_, pss_cons (ps_if (PW.pt (pw_or (pt_not (pt_val (pcall d_each_once hr (pa_cons (pcall d_flat hr (pa_cons (pv 1) pa_nil)) pa_nil)))) (pw_or1 (pt_cmpR (op_neD (hu100 hr)) (pv 1) (pe_callB call_sortedP rfl m_sorted bb_sorted (pa_cons (pv 1) pa_nil)) (nomark _))))) (pss_one (ps_ret pe_bl)) pss_nil)
    (pss_one (ps_ret (pe_and (pe_callB (call_all rfl) rfl m_all bb_all (pa_cons (pe_comp rfl (pi_list (pv 1)) rfl rfl rfl rfl (N := ["a", "b"]) (.own (.own .nil)) (fun _ _ _ _ _ _ => (pg_tupK (K := K) (n := 2) rfl rfl (pgs_cons (pg_name (i := 0) (by show List.Nodup (["a", "b"] : List Str); decide +kernel) rfl (Or.inl rfl)) (pgs_cons (pg_name (i := 1) (by show List.Nodup (["a", "b"] : List Str); decide +kernel) rfl (Or.inl rfl)) pgs_nil)))) (fun _ _ _ _ _ _ => pts_nil) (fun _ _ _ _ _ _ => (pe_cmpR op_lt (pv 0) (pv 1) (nomark _)))) pa_nil)) (pe_one (pe_not (pcall d_any_cross hr (pa_cons (pv 1) pa_nil))))))), ?_⟩
  refine ⟨_, rfl, l, ps, rfl, hl, by omega, fun pf H1 s1 f1 h1 => ⟨pf, _, rfl, h1, by rw [flatP_len]; omega, fun H2 s2 => ⟨_, rfl, ?_⟩⟩⟩
  have s12 := s1.trans s2
  have hl2 := hl.same s12
  cases hE : eachB (flatP ps) with
  | false =>
    rw [isBows_no hE] at q
    exact iteT (iteT (q _ s12))
  | true =>
    refine iteF ⟨_, rfl, _, rfl, l, ps, rfl, hl2, by omega, fun pq qs H3 s3 f3 h3 hp hs => ?_⟩
    have s13 := s12.trans s3
    have hl3 := hl.same s13
    have ne : l ≠ pq := by
      obtain ⟨_, e, _⟩ := hl2
      exact ne_of_none e f3
    refine ⟨2, _, by decide, EqD.prs ne hl3 h3, ⟨l, pq, rfl, rfl, ne⟩, _, rfl, ?_⟩
    by_cases e : ps = qs
    · rw [isBows_rest hp hs hE e] at q
      obtain ⟨xs, el, lxs, pr⟩ := hl3.len
      rw [decide_eq_true e]
      refine iteF ⟨_, rfl, l, rfl, ⟨_, SqL.of el⟩, fun D hD => comp_walk (xs := xs) (fun i ys H' => Same H3 H' ∧ H' D = some (.lst ys) ∧ ys = ((ps.take i).map fun p => decide (p.1 < p.2)).map V.bl ∧ i ≤ ps.length) (sz (by omega)) ⟨Same.new (Same.refl H3) hD _, upd_same, rfl, Nat.zero_le _⟩ (fun i ys H' hi h => ⟨SqL.of (h.1 _ _ el), ?_⟩) (fun i x ys H' R R0 hx h r r0 => ?_) (fun ys H' h => ?_)⟩
      · rw [h.2.2.1]
        simp
        omega
      · obtain ⟨sm, hy, ey, hi⟩ := h
        obtain ⟨pp, tt, hpp, rfl, htt⟩ := pr.get hx
        have hlt : i < ps.length := (List.getElem?_eq_some_iff.mp hpp).1
        refine ⟨tt, _, rfl, SqT.of (sm _ _ htt), rfl, _, _, rfl, _, _, rfl, rfl, (Ext.set rfl).trans (Ext.set rfl), ttN (iteT ⟨_, rfl, _, rfl, _, _, rfl, rfl, ?_⟩)⟩
        refine r _ _ hy ⟨sm.upd hD _, upd_same, ?_, hlt⟩
        rw [List.take_add_one, hpp, List.map_append, List.map_append, ← ey]
        rfl
      · obtain ⟨sm, hy, ey, hi⟩ := h
        rw [List.take_of_length_le (by omega)] at ey
        have ha : (((ps.map fun p => decide (p.1 < p.2)).map V.bl).length) = ps.length := by simp
        rw [ey] at hy
        refine ⟨D, _, rfl, SqL.of hy, _, rfl, ?_⟩
        have e2 : ((ps.map fun p => decide (p.1 < p.2)).all id) = ps.all fun p => decide (p.1 < p.2) := by rw [List.all_map]; rfl
        rw [e2]
        cases hA : ps.all fun p => decide (p.1 < p.2) with
        | false =>
          rw [hA, Bool.false_and] at q
          exact iteF (q _ (s13.trans sm))
        | true =>
          rw [hA, Bool.true_and] at q
          exact iteT ⟨_, rfl, l, ps, rfl, hl3.same sm, _, rfl, q _ (s13.trans sm)⟩
    · rw [isBows_mix hp hs hE e] at q
      rw [decide_eq_false e]
      exact iteT (q _ s13)
theorem ok_Bows__Family_refuse_other {ca : ClA} (CA : ClOk K mg ca) {fd : FuncData} (F : Fun K "refuse_other" "Family.refuse_other" s_Bows__Family_refuse_other ca.f_Bows__Family_refuse_other fd) {fd0 : FuncData} (d_Bows__is_one : MDef P w K mg base ["self", "thing"] 2 (sp_Bows__is_one K ca) ca.f_Bows__is_one fd0) : FnOk P w K mg base CX0 3 ca.f_Bows__Family_refuse_other fd ["self", "thing"] (sp_Bows__Family_refuse_other K ca) := by
  refine F.ok sc_Bows__Family_refuse_other (fun vs H Q E h => ?_) (fun cdv A outer s H vs Q E hr h => ?_)
  · obtain ⟨x, dx, fs, l, ps, rfl, hx, fo, hl, hz, hB, q⟩ := h
    rfl
  obtain ⟨x, dx, fs, l, ps, rfl, hx, fo, hl, hz, hB, q⟩ := h
  refine ⟨_, pss_one (ps_if (pt_not (pt_val (pmeth (pv 0) CA.c_Bows CA.mt_Bows_is_one d_Bows__is_one hr (pa_cons (pv 1) pa_nil)))) (pss_one ps_never) pss_nil), ?_⟩
  exact ⟨_, rfl, x, dx, fs, rfl, hx, fo, _, rfl, x, l, ps, rfl, hl, hz, fun H1 s1 => ⟨_, rfl, by rw [hB]; exact iteF (q H1 s1)⟩⟩
theorem ok_bows_to_brackets {ca : ClA} (CA : ClOk K mg ca) {f : Addr} {fd : FuncData} (F : Fun K "bows_to_brackets" "bows_to_brackets" s_bows_to_brackets f fd) {fd0 : FuncData} (d_Bows____init__ : MDef P w K mg base ["self"] 5 (sp_Bows____init__ K ca) ca.f_Bows____init__ fd0) {fd1 : FuncData} (d_Bows__Family_refuse_other : MDef P w K mg base ["self", "thing"] 3 (sp_Bows__Family_refuse_other K ca) ca.f_Bows__Family_refuse_other fd1) (m_len : mg "len" = none) : FnOk P w K mg base CX0 7 f fd ["thing"] (sp_bows_to_brackets K ca) := by
  refine F.ok sc_bows_to_brackets (fun vs H Q E h => ?_) (fun cdv A outer s H vs Q E hr h => ?_)
  · obtain ⟨l, ps, rfl, hl, hz, hB, hb, q⟩ := h
    rfl
  obtain ⟨l, ps, rfl, hl, hz, hB, hb, q⟩ := h
  refine ⟨_, pss_cons (ps_expr (pmeth (pmake0 CA.mk_Bows CA.m_Bows d_Bows____init__ hr) CA.c_Bows CA.mt_Bows_refuse_other d_Bows__Family_refuse_other hr (pa_cons (pv 0) pa_nil)))
    (pss_cons (ps_set (i := 1) sc_bows_to_brackets.nd rfl (Or.inl rfl) (pe_op op_rep (pe_lst (pa_cons pe_str pa_nil)) (pe_op op_mul pe_int (pe_callB call_len_seq rfl m_len bb_len (pa_cons (pv 0) pa_nil)))))
    (pss_cons (ps_for PassesOwn.never rfl (pi_list (pv 0)) (pg_tup rfl (pgs_cons (pg_name (i := 2) sc_bows_to_brackets.nd rfl (Or.inl rfl)) (pgs_cons (pg_name (i := 3) sc_bows_to_brackets.nd rfl (Or.inl rfl)) pgs_nil))) (pss_one (ps_asg pe_str (pg_sub (pv 1) (pv 2) set_list))))
    (pss_one (ps_ret (pe_bm PySem.F.plainAttrs_str PySem.F.slot_str_join PySem.F.type_str_join mt_join pe_str (pa_cons (pv 1) pa_nil)))))), ?_⟩
  intro x dx nx ndx nex
  refine ⟨x, dx, rfl, upd_same, fun fsx Hx1 ex fx => ⟨rfl, ?_⟩⟩
  have sx : Same H Hx1 := by rw [ex]; exact ((Same.new (Same.refl H) ndx _).upd nx _).upd nx _
  have hx : Hx1 x = some (.ins ca.C_Bows dx fsx) := by rw [ex]; exact upd_same
  refine ⟨x, dx, fsx, rfl, hx, fx.no "refuse_other" (by decide) (by decide), _, rfl, x, dx, fsx, l, ps, rfl, hx, fx.no "is_one" (by decide) (by decide), hl.same sx, by omega, hB, fun H2 s2 => ?_⟩
  have t2 := sx.trans s2
  obtain ⟨xs, el, lxs, pr⟩ := (hl.same t2).len
  refine ⟨(by show 1 ≤ sizeLine; decide), fun p1 hp1 => ?_⟩
  have s3 := Same.new t2 hp1 (.lst [.str (Str.ofString ")")])
  have n1 : l ≠ p1 := ne_of_none el hp1
  refine ⟨_, rfl, l, _, rfl, .inl (SqL.of ((upd_ne n1).trans el)), _, _, rfl, rfl, .inl ⟨by decide, by decide⟩, p1, _, _, rfl, rfl, upd_same, by omega, by omega, sz (by simp; omega), fun pf hpf => ?_⟩
  have s4 := Same.new s3 hpf (.lst (List.replicate (2 * (xs.length : Int)).toNat [V.str (Str.ofString ")")]).flatten)
  have fpf := s3.free hpf
  have hf4 : upd (upd H2 p1 (.lst [.str (Str.ofString ")")])) pf (.lst (List.replicate (2 * (xs.length : Int)).toNat [V.str (Str.ofString ")")]).flatten) pf = some (.lst ((sgU (ps.take 0) (2 * ps.length)).map sgn)) := by
    rw [upd_same, rep_one, List.take_zero, sgU_nil, List.map_replicate, show (2 * (xs.length : Int)).toNat = 2 * ps.length by omega, show sgn 41 = V.str (Str.ofString ")") from (sgn41).symm]
  generalize upd (upd H2 p1 (.lst [.str (Str.ofString ")")])) pf (.lst (List.replicate (2 * (xs.length : Int)).toNat [V.str (Str.ofString ")")]).flatten) = H4 at s4 hf4 ⊢
  obtain ⟨ws, ew, lws, pw⟩ := (hl.same s4).len
  have nlf : l ≠ pf := by
    obtain ⟨_, e, _⟩ := hl.same s3
    exact ne_of_none e hpf
  refine ⟨_, rfl, l, rfl, ⟨_, SqL.of ew⟩, for_list (xs := ws) (fun i σ H' => ∃ (o1 o2 : Option V), σ = [some (.ref l), some (.ref pf), o1, o2] ∧ Same H H' ∧ H' l = some (.lst ws) ∧ Prs H' ws ps ∧ H' pf = some (.lst ((sgU (ps.take i) (2 * ps.length)).map sgn))) ⟨_, _, rfl, s4, ew, pw, hf4⟩ (fun i σ H' _ h => SqL.of h.choose_spec.choose_spec.2.2.1) ?_ ?_⟩
  · rintro i v σ H5 hv ⟨o1, o2, rfl, sm, ew5, pw5, hf5⟩
    obtain ⟨pp, tt, hpp, rfl, htt⟩ := pw5.get hv
    have hlt : i < ps.length := (List.getElem?_eq_some_iff.mp hpp).1
    have bp := hb pp (List.mem_of_getElem? hpp)
    have lsg : ((sgU (ps.take i) (2 * ps.length)).map sgn).length = 2 * ps.length := by rw [List.length_map, sgU_len]
    refine ⟨tt, _, rfl, SqT.of htt, rfl, _, _, rfl, _, _, rfl, rfl, ?_⟩
    refine ⟨_, rfl, _, rfl, pf, _, _, _, rfl, rfl, hf5, ixN_nat bp.1 (by omega), ?_⟩
    refine ⟨_, _, rfl, sm.upd fpf _, (upd_ne nlf).trans ew5, pw5.updL hf5 _, ?_⟩
    rw [upd_same, sgn40, ← List.map_set, sgU_snoc bp.1 (by omega), List.take_add_one, hpp]
    rfl
  · rintro σ H5 ⟨o1, o2, rfl, sm, ew5, pw5, hf5⟩
    rw [List.take_of_length_le (by omega)] at hf5
    have ef : (sgU ps (2 * ps.length)).map sgn = ((sgU ps (2 * ps.length)).map mkS).map V.str := by rw [List.map_map]; rfl
    rw [ef] at hf5
    refine ⟨rfl, _, rfl, _, pf, _, rfl, rfl, SqL.of hf5, ?_, q _ H5 sm (join_sgn _)⟩
    rw [show (Str.ofString "").length = 0 by decide +kernel]
    rw [sum_mkS, List.length_map, sgU_len]
    omega
theorem ok__law_stairs_by {ca : ClA} (CA : ClOk K mg ca) {f : Addr} {fd : FuncData} (F : Fun K "_law_stairs_by" "_law_stairs_by" s__law_stairs_by f fd) {f0 : Addr} {fd0 : FuncData} (d__law_draws : Def P w K mg base "_law_draws" ["_law_script", "_law_turn", "_law_many"] 2 (sp__law_draws K ca) f0 fd0) (m_enumerate : mg "enumerate" = none) : FnOk P w K mg base CX0 3 f fd ["_law_script", "_law_size", "_law_turn"] (sp__law_stairs_by K ca) := by
  refine F.ok sc__law_stairs_by (fun vs H Q E h => ?_) (fun cdv A outer s H vs Q E hr h => ?_)
  · obtain ⟨a, ns, n, t, rfl, hS, h63, hn, t0, t1, q⟩ := h
    rfl
  obtain ⟨a, ns, n, t, rfl, hS, h63, hn, t0, t1, q⟩ := h
  refine ⟨_, pss_cons (ps_set (i := 3) sc__law_stairs_by.nd rfl (Or.inl rfl) (pe_lst pa_nil))
    (pss_cons (ps_set (i := 4) sc__law_stairs_by.nd rfl (Or.inl rfl) pe_int)
    (pss_cons (ps_for PassesOwn.never rfl (pi_enum rfl m_enumerate (pa_cons (pcall d__law_draws hr (pa_cons (pv 0) (pa_cons (pv 2) (pa_cons (pv 1) pa_nil)))) pa_nil)) (pg_tup rfl (pgs_cons (pg_name (i := 5) sc__law_stairs_by.nd rfl (Or.inl rfl)) (pgs_cons (pg_name (i := 6) sc__law_stairs_by.nd rfl (Or.inl rfl)) pgs_nil))) (pss_cons (ps_set (i := 4) sc__law_stairs_by.nd rfl (Or.inl rfl) (pe_op op_add (pv 4) (pe_op op_mul (pe_op op_mod (pv 6) (pe_op op_add (pe_op op_sub (pv 5) (pv 4)) pe_int)) (pe_op op_mod (pe_op op_fdivL (pv 6) pe_int) pe_int))))
    (pss_one (ps_expr (pe_bm PySem.F.plainAttrs_list PySem.F.slot_list_append PySem.F.type_list_append mt_append (pv 3) (pa_cons (pv 4) pa_nil))))))
    (pss_one (ps_ret (pv 3))))), ?_⟩
  refine ⟨Nat.zero_le _, fun pr hpr => ?_⟩
  have s1 := Same.new (Same.refl H) hpr (.lst [])
  have hr1 : upd H pr (.lst []) pr = some (.lst []) := upd_same
  generalize upd H pr (.lst []) = H1 at s1 hr1 ⊢
  refine ⟨_, rfl, _, rfl, _, rfl, a, ns, t, (n : Int), rfl, s1.seq hS, h63, t0, by omega, by omega, by omega, fun pd xs H2 sm2 fd hd lx bx => ?_⟩
  have s2 := s1.trans sm2
  have lm : (xs.map V.int).length = xs.length := List.length_map _
  have nrd : pr ≠ pd := ne_of_none hr1 fd
  refine ⟨pd, rfl, ⟨_, SqL.of hd⟩, for_enum (xs := xs.map V.int) (fun i σ H' => ∃ (o1 o2 : Option V) (rs : List Int) (b : Int), σ = [some (.ref a), some (.int n), some (.int t), some (.ref pr), some (.int b), o1, o2] ∧ Same H H' ∧ H' pd = some (.lst (xs.map V.int)) ∧ H' pr = some (.lst (rs.map V.int)) ∧ rs.length = i ∧ St rs b) ⟨_, _, [], 0, rfl, s2, hd, sm2 _ _ hr1, rfl, .nil⟩ (fun i σ H' _ h => SqL.of h.choose_spec.choose_spec.choose_spec.choose_spec.2.2.1) ?_ ?_⟩
  · rintro i v σ H5 T hv ⟨o1, o2, rs, b, rfl, sm, hd5, hr5, lr, st⟩ hT
    obtain ⟨c, rfl⟩ := get_int hv
    have hi : i < xs.length := by rw [← lm]; exact (List.getElem?_eq_some_iff.mp hv).1
    have b0 := st.low
    have b1 := st.top
    have nT1 : pd ≠ T := ne_of_none hd5 hT
    have nT2 : pr ≠ T := ne_of_none hr5 hT
    refine ⟨T, _, rfl, SqT.of upd_same, rfl, _, _, rfl, _, _, rfl, rfl, ?_⟩
    have e0 := Int.emod_nonneg c (show (i : Int) - b + 1 ≠ 0 by omega)
    have e1 := Int.emod_lt_of_pos c (show 0 < (i : Int) - b + 1 by omega)
    have f0 := Int.emod_nonneg (c / 97) (show (2 : Int) ≠ 0 by decide)
    have f1 := Int.emod_lt_of_pos (c / 97) (show (0 : Int) < 2 by decide)
    refine ⟨_, rfl, _, rfl, _, rfl, _, rfl, _, _, rfl, rfl, _, _, rfl, rfl, _, _, rfl, rfl, by omega, _, rfl, _, _, rfl, rfl, ⟨by decide, by decide +kernel⟩, _, _, rfl, rfl, pm (by decide), ?_⟩
    try dsimp only
    generalize c % ((i : Int) - b + 1) = u at e0 e1 ⊢
    generalize c / 97 % 2 = g at f0 f1 ⊢
    have hu : 0 ≤ u * g ∧ u * g ≤ (i : Int) - b := by
      rcases (by omega : g = 0 ∨ g = 1) with rfl | rfl
      · rw [Int.mul_zero]; omega
      · rw [Int.mul_one]; omega
    refine ⟨_, _, rfl, rfl, .inl ⟨by omega, by omega⟩, _, _, rfl, rfl, ?_⟩
    try dsimp only
    generalize u * g = w at hu ⊢
    have hr6 := (upd_ne (o := .tup [.int (i : Int), .int c]) nT2).trans hr5
    refine ⟨_, rfl, .inl ⟨rfl, _, SqL.of hr6⟩, _, rfl, pr, _, _, rfl, rfl, hr6, by rw [List.length_map]; exact sz' (by omega), ?_⟩
    refine ⟨_, _, rs ++ [b + w], b + w, rfl, (Same.new sm hT _).upd hpr _, (upd_ne (Ne.symm nrd)).trans ((upd_ne nT1).trans hd5), by rw [upd_same, List.map_append]; rfl, by simp [lr], st.snoc (by omega) (by omega)⟩
  · rintro σ H5 ⟨o1, o2, rs, b, rfl, sm, hd5, hr5, lr, st⟩
    exact ⟨_, rfl, q pr rs b H5 sm hpr hr5 (by omega) st⟩
theorem ok__law_closes {ca : ClA} (CA : ClOk K mg ca) {f : Addr} {fd : FuncData} (F : Fun K "_law_closes" "_law_closes" s__law_closes f fd) : FnOk P w K mg base CX0 1 f fd ["_law_text_here"] (sp__law_closes K ca) := by
  refine F.ok sc__law_closes (fun vs H Q E h => ?_) (fun cdv A outer s H vs Q E hr h => ?_)
  · obtain ⟨x, rfl, q⟩ := h
    rfl
  obtain ⟨x, rfl, q⟩ := h
  refine ⟨_, pss_cons (ps_set (i := 1) sc__law_closes.nd rfl (Or.inl rfl) pe_int)
    (pss_cons (ps_for PassesOwn.never rfl (pi_str (pv 0)) (pg_name (i := 2) sc__law_closes.nd rfl (Or.inl rfl)) (pss_cons (ps_if (pt_cmpR op_eq (pv 2) pe_str (nomark _)) (pss_one (ps_set (i := 1) sc__law_closes.nd rfl (Or.inl rfl) (pe_op op_add (pv 1) pe_int))) (pss_one (ps_if (pt_cmpR op_eq (pv 2) pe_str (nomark _)) (pss_one (ps_set (i := 1) sc__law_closes.nd rfl (Or.inl rfl) (pe_op op_sub (pv 1) pe_int))) (pss_one (ps_ret pe_bl)))))
    (pss_one (ps_if (pt_cmpR op_lt (pv 1) pe_int (nomark _)) (pss_one (ps_ret pe_bl)) pss_nil))))
    (pss_one (ps_ret (pe_cmpR op_eq (pv 1) pe_int (nomark _))))), ?_⟩
  have fin : ∀ b, clo 0 x.cps.toList = b → Q (.bl b) H := fun b h => by rw [← h]; exact q
  refine ⟨_, rfl, x, rfl, for_str (x := x) (fun i σ H' => H' = H ∧ ∃ (o : Option V) (d : Nat), σ = [some (.str x), some (.int d), o] ∧ clo 0 x.cps.toList = clo d (x.cps.toList.drop i)) ⟨rfl, none, 0, rfl, rfl⟩ ?_ ?_⟩
  · rintro i c σ H' hc ⟨rfl, o, d, rfl, e⟩
    rw [drop_cps hc] at e
    refine ⟨_, rfl, rfl, _, rfl, iteB (dec40 c) ?_⟩
    by_cases h1 : c = 40
    · refine iteP h1 ⟨_, rfl, _, _, rfl, rfl, _, rfl, _, _, rfl, rfl, _, rfl, iteN (by omega) ⟨rfl, _, d + 1, rfl, ?_⟩⟩
      rw [e, h1, clo_up]
    · refine iteN h1 ⟨_, rfl, rfl, _, rfl, iteB (dec41 c) ?_⟩
      by_cases h2 : c = 41
      · refine iteP h2 ⟨_, rfl, _, _, rfl, rfl, _, rfl, _, _, rfl, rfl, _, rfl, ?_⟩
        cases d with
        | zero => exact iteP (by omega) (fin false (by rw [e, h2, clo_under]))
        | succ d =>
          refine iteN (by omega) ⟨rfl, some (.str ⟨#[c]⟩), d, ?_, ?_⟩
          · show [some (V.str x), some (V.int (((d + 1 : Nat) : Int) - 1)), some (V.str ⟨#[c]⟩)] = _
            rw [show ((d + 1 : Nat) : Int) - 1 = (d : Int) by omega]
          · rw [e, h2, clo_down]
      · exact iteN h2 (fin false (by rw [e, clo_other h1 h2]))
  · rintro σ H' ⟨rfl, o, d, rfl, e⟩
    refine ⟨_, rfl, rfl, fin _ ?_⟩
    rw [e, drop_all, clo_nil]
    cases d with
    | zero => rfl
    | succ d => exact (decide_eq_false fun z => by injection z with z; omega).symm
theorem ok_law {ca : ClA} (CA : ClOk K mg ca) {f : Addr} {fd : FuncData} (F : Fun K "law" "law" s_law f fd) {f0 : Addr} {fd0 : FuncData} (d__law_text_by : Def P w K mg base "_law_text_by" ["_law_script", "_law_size", "_law_turn"] 3 (sp__law_text_by K ca) f0 fd0) {f1 : Addr} {fd1 : FuncData} (d__law_cell_at : Def P w K mg base "_law_cell_at" ["_law_script", "_law_k"] 1 (sp__law_cell_at K ca) f1 fd1) {f2 : Addr} {fd2 : FuncData} (d__law_stairs_of : Def P w K mg base "_law_stairs_of" ["_law_text_here"] 1 (sp__law_stairs_of K ca) f2 fd2) {f3 : Addr} {fd3 : FuncData} (d_brackets_to_stairs : Def P w K mg base "brackets_to_stairs" ["thing"] 7 (sp_brackets_to_stairs K ca) f3 fd3) {f4 : Addr} {fd4 : FuncData} (d__law_numbers : Def P w K mg base "_law_numbers" ["_law_found", "_law_due"] 2 (sp__law_numbers K ca) f4 fd4) {f5 : Addr} {fd5 : FuncData} (d__law_text : Def P w K mg base "_law_text" ["_law_found", "_law_due"] 1 (sp__law_text K ca) f5 fd5) {f6 : Addr} {fd6 : FuncData} (d_stairs_to_brackets : Def P w K mg base "stairs_to_brackets" ["thing"] 7 (sp_stairs_to_brackets K ca) f6 fd6) {f7 : Addr} {fd7 : FuncData} (d__law_bows_of : Def P w K mg base "_law_bows_of" ["_law_text_here"] 2 (sp__law_bows_of K ca) f7 fd7) {f8 : Addr} {fd8 : FuncData} (d_brackets_to_bows : Def P w K mg base "brackets_to_bows" ["thing"] 7 (sp_brackets_to_bows K ca) f8 fd8) {f9 : Addr} {fd9 : FuncData} (d__law_pairs : Def P w K mg base "_law_pairs" ["_law_found", "_law_due"] 2 (sp__law_pairs K ca) f9 fd9) {f10 : Addr} {fd10 : FuncData} (d_bows_to_brackets : Def P w K mg base "bows_to_brackets" ["thing"] 7 (sp_bows_to_brackets K ca) f10 fd10) {f11 : Addr} {fd11 : FuncData} (d__law_stairs_by : Def P w K mg base "_law_stairs_by" ["_law_script", "_law_size", "_law_turn"] 3 (sp__law_stairs_by K ca) f11 fd11) {f12 : Addr} {fd12 : FuncData} (d__law_closes : Def P w K mg base "_law_closes" ["_law_text_here"] 1 (sp__law_closes K ca) f12 fd12) (m_list : mg "list" = none) (m_isinstance : mg "isinstance" = none) (m_str : mg "str" = none) (m_len : mg "len" = none) : FnOk P w K mg base CX0 8 f fd ["_law_script"] (sp_law K ca) := by
  refine F.ok sc_law (fun vs H Q E h => ?_) (fun cdv A outer s H vs Q E hr h => ?_)
  · obtain ⟨a, ns, rfl, hS, h63, q⟩ := h
    rfl
  obtain ⟨a, ns, rfl, hS, h63, q⟩ := h
  refine ⟨_, pss_cons (ps_set (i := 1) sc_law.nd rfl (Or.inl rfl) (pcall d__law_text_by hr (pa_cons (pv 0) (pa_cons (pe_op op_mod (pcall d__law_cell_at hr (pa_cons (pv 0) (pa_cons pe_int pa_nil))) pe_int) (pa_cons pe_int pa_nil)))))
    (pss_cons (ps_set (i := 2) sc_law.nd rfl (Or.inl rfl) (pcall d__law_stairs_of hr (pa_cons (pv 1) pa_nil)))
    (pss_cons (ps_set (i := 3) sc_law.nd rfl (Or.inl rfl) (pcall d_brackets_to_stairs hr (pa_cons (pv 1) pa_nil)))
    (pss_cons (ps_if (pt_not (pt_val (pcall d__law_numbers hr (pa_cons (pv 3) (pa_cons (pv 2) pa_nil))))) (pss_one (ps_ret pe_bl)) pss_nil)
    (pss_cons (ps_expr (pe_bm PySem.F.plainAttrs_list PySem.F.slot_list_append PySem.F.type_list_append mt_append (pv 3) (pa_cons pe_int pa_nil)))
    (pss_cons (ps_if (pt_not (pt_val (pcall d__law_numbers hr (pa_cons (pcall d_brackets_to_stairs hr (pa_cons (pv 1) pa_nil)) (pa_cons (pv 2) pa_nil))))) (pss_one (ps_ret pe_bl)) pss_nil)
    (pss_cons (ps_set (i := 4) sc_law.nd rfl (Or.inl rfl) (pe_callTy call_list_of rfl m_list bb_list (pa_cons (pv 2) pa_nil)))
    (pss_cons (ps_if (PW.pt (pw_or (pt_not (pt_val (pcall d__law_text hr (pa_cons (pcall d_stairs_to_brackets hr (pa_cons (pv 4) pa_nil)) (pa_cons (pv 1) pa_nil))))) (pw_or1 (pt_not (pt_val (pcall d__law_numbers hr (pa_cons (pv 4) (pa_cons (pv 2) pa_nil)))))))) (pss_one (ps_ret pe_bl)) pss_nil)
    (pss_cons (ps_set (i := 5) sc_law.nd rfl (Or.inl rfl) (pcall d__law_bows_of hr (pa_cons (pv 1) pa_nil)))
    (pss_cons (ps_set (i := 3) sc_law.nd rfl (Or.inl rfl) (pcall d_brackets_to_bows hr (pa_cons (pv 1) pa_nil)))
    (pss_cons (ps_if (pt_not (pt_val (pcall d__law_pairs hr (pa_cons (pv 3) (pa_cons (pv 5) pa_nil))))) (pss_one (ps_ret pe_bl)) pss_nil)
    (pss_cons (ps_expr (pe_bm PySem.F.plainAttrs_list PySem.F.slot_list_append PySem.F.type_list_append mt_append (pv 3) (pa_cons (pe_tup (pa_cons pe_int (pa_cons pe_int pa_nil))) pa_nil)))
    (pss_cons (ps_if (pt_not (pt_val (pcall d__law_pairs hr (pa_cons (pcall d_brackets_to_bows hr (pa_cons (pv 1) pa_nil)) (pa_cons (pv 5) pa_nil))))) (pss_one (ps_ret pe_bl)) pss_nil)
    (pss_cons (ps_set (i := 4) sc_law.nd rfl (Or.inl rfl) (pe_callTy call_list_of rfl m_list bb_list (pa_cons (pv 5) pa_nil)))
    (pss_cons (ps_if (PW.pt (pw_or (pt_not (pt_val (pcall d__law_text hr (pa_cons (pcall d_bows_to_brackets hr (pa_cons (pv 4) pa_nil)) (pa_cons (pv 1) pa_nil))))) (pw_or1 (pt_not (pt_val (pcall d__law_pairs hr (pa_cons (pv 4) (pa_cons (pv 5) pa_nil)))))))) (pss_one (ps_ret pe_bl)) pss_nil)
    (pss_cons (ps_set (i := 6) sc_law.nd rfl (Or.inl rfl) (pcall d__law_stairs_by hr (pa_cons (pv 0) (pa_cons (pe_op op_mod (pcall d__law_cell_at hr (pa_cons (pv 0) (pa_cons pe_int pa_nil))) pe_int) (pa_cons pe_int pa_nil)))))
    (pss_cons (ps_set (i := 3) sc_law.nd rfl (Or.inl rfl) (pcall d_stairs_to_brackets hr (pa_cons (pe_callTy call_list_of rfl m_list bb_list (pa_cons (pv 6) pa_nil)) pa_nil)))
    (pss_cons (ps_if (PW.pt (pw_or (pt_not (pt_val (pe_callB call_isinst rfl m_isinstance bb_isinstance (pa_cons (pv 3) (pa_cons (pe_bltn (v := .ty "str") rfl m_str bb_str rfl) pa_nil))))) (pw_or (pt_cmpR op_ne (pe_callB call_len_str rfl m_len bb_len (pa_cons (pv 3) pa_nil)) (pe_op op_mul pe_int (pe_callB call_len_seq rfl m_len bb_len (pa_cons (pv 6) pa_nil))) (nomark _)) (pw_or1 (pt_not (pt_val (pcall d__law_closes hr (pa_cons (pv 3) pa_nil)))))))) (pss_one (ps_ret pe_bl)) pss_nil)
    (pss_one (ps_ret (pcall d__law_numbers hr (pa_cons (pcall d_brackets_to_stairs hr (pa_cons (pv 3) pa_nil)) (pa_cons (pv 6) pa_nil)))))))))))))))))))))), ?_⟩
  have m0 := Int.emod_nonneg (ns.getD (0 : Int).toNat 0) (show (41 : Int) ≠ 0 by decide)
  have m1 := Int.emod_lt_of_pos (ns.getD (0 : Int).toNat 0) (show (0 : Int) < 41 by decide)
  refine ⟨_, rfl, _, rfl, a, ns, 0, rfl, hS, by decide, _, _, rfl, rfl, pm (by decide), ?_⟩
  try dsimp only
  generalize ns.getD (0 : Int).toNat 0 % 41 = n at m0 m1 ⊢
  refine ⟨a, ns, n, 3, rfl, hS, h63, m0, by omega, by decide, by decide, fun t H1 s1 cl lt => ?_⟩
  have sg := clo_signs _ 0 cl
  have lc := cps_len t
  have hlf := clo_ends cl
  have lst : (stR 0 t.cps.toList).length ≤ 40 := by rw [stR_len]; omega
  have lsm : ((stR 0 t.cps.toList).map V.int).length = (stR 0 t.cps.toList).length := List.length_map _
  have sok : stF 0 0 (stR 0 t.cps.toList) = true := stR_ok t.cps.toList 0 0 cl 0 (Int.le_refl _)
  have bts := back_text cl
  generalize hst : stR 0 t.cps.toList = st at lst lsm sok bts
  refine ⟨_, rfl, t, rfl, by omega, sg, fun pst H2 s2 f2 h2 => ?_⟩
  rw [hst] at h2
  refine ⟨_, rfl, t, rfl, cl, by omega, fun p3 H3 s3 f3 h3 => ?_⟩
  rw [hst] at h3
  refine ⟨_, rfl, _, rfl, p3, pst, st, rfl, h3, s3 _ _ h2, by omega, _, rfl, iteF ?_⟩
  refine ⟨_, rfl, .inl ⟨rfl, _, SqL.of h3⟩, p3, _, _, rfl, rfl, h3, by rw [lsm]; exact sz' (by omega), ?_⟩
  have s4 : Same H2 (upd H3 p3 (.lst (st.map V.int ++ [.int 0]))) := s3.upd f3 _
  generalize upd H3 p3 (.lst (st.map V.int ++ [.int 0])) = H4 at s4 ⊢
  refine ⟨_, rfl, t, rfl, cl, by omega, fun p5 H5 s5 f5 h5 => ?_⟩
  rw [hst] at h5
  have s25 := s4.trans s5
  refine ⟨_, rfl, p5, pst, st, rfl, h5, s25 _ _ h2, by omega, _, rfl, iteF ?_⟩
  refine ⟨_, rfl, pst, _, rfl, .inl (SqL.of (s25 _ _ h2)), fun pc hpc => ?_⟩
  have s26 := Same.new s25 hpc (.lst (st.map V.int))
  have hc6 : upd H5 pc (.lst (st.map V.int)) pc = some (.lst (st.map V.int)) := upd_same
  generalize upd H5 pc (.lst (st.map V.int)) = H6 at s26 hc6 ⊢
  refine ⟨_, rfl, pc, st, rfl, SqL.of hc6, sok, lst, fun t' H7 s7 e7 => ?_⟩
  have et : t' = t := str_ext (by rw [e7, bts])
  rw [et]
  have s27 := s26.trans s7
  refine ⟨_, rfl, t, rfl, _, rfl, iteF ⟨_, rfl, _, rfl, pc, pst, st, rfl, s7 _ _ hc6, s27 _ _ h2, by omega, _, rfl, iteF ?_⟩⟩
  have lb : (bwU t.cps.toList t.length).length ≤ 40 := by
    rw [bwU_len _ (by omega), List.take_of_length_le (by omega)]
    omega
  have lb2 : t.length = 2 * (bwU t.cps.toList t.length).length := by
    rw [bwU_len _ (by omega), List.take_of_length_le (by omega)]
    omega
  have sgt : sgU (bwU t.cps.toList t.length) t.length = t.cps.toList := by
    have := sgU_text sg
    rw [lc] at this
    exact this
  have bin : ∀ p ∈ bwU t.cps.toList t.length, 0 ≤ p.1 ∧ p.1 < 2 * (((bwU t.cps.toList t.length).length : Nat) : Int) := fun p hp => by
    have := bwU_in hp
    omega
  refine ⟨_, rfl, t, rfl, by omega, fun pb H8 s8 f8 h8 => ?_⟩
  refine ⟨_, rfl, t, rfl, cl, by omega, fun p9 H9 s9 f9 h9 hB => ?_⟩
  generalize hbw : bwU t.cps.toList t.length = bw at lb lb2 sgt bin h8 h9 hB
  refine ⟨_, rfl, _, rfl, p9, pb, bw, rfl, h9, h8.same s9, by omega, _, rfl, iteF ?_⟩
  obtain ⟨w9, e9, l9, pr9⟩ := h9.len
  refine ⟨_, rfl, .inl ⟨rfl, _, SqL.of e9⟩, (by show 2 ≤ sizeLine; decide), fun tz htz => ?_⟩
  have nz : p9 ≠ tz := ne_of_none e9 htz
  refine ⟨p9, _, _, rfl, rfl, (upd_ne nz).trans e9, sz' (by omega), ?_⟩
  have s10 : Same H8 (upd (upd H9 tz (.tup [.int 0, .int 1])) p9 (.lst (w9 ++ [.ref tz]))) := (Same.new s9 htz _).upd f9 _
  generalize upd (upd H9 tz (.tup [.int 0, .int 1])) p9 (.lst (w9 ++ [.ref tz])) = H10 at s10 ⊢
  refine ⟨_, rfl, t, rfl, cl, by omega, fun p11 H11 s11 f11 h11 _ => ?_⟩
  rw [hbw] at h11
  have s811 := s10.trans s11
  refine ⟨_, rfl, p11, pb, bw, rfl, h11, h8.same s811, by omega, _, rfl, iteF ?_⟩
  obtain ⟨wb, eb, lwb, prb⟩ := (h8.same s811).len
  refine ⟨_, rfl, pb, _, rfl, .inl (SqL.of eb), fun pd hpd => ?_⟩
  have s812 := Same.new s811 hpd (.lst wb)
  have hd12 : PLs (upd H11 pd (.lst wb)) pd bw := ⟨wb, upd_same, prb.updN hpd _⟩
  generalize upd H11 pd (.lst wb) = H12 at s812 hd12 ⊢
  refine ⟨_, rfl, pd, bw, rfl, hd12, lb, hB, bin, fun t3 H13 s13 e13 => ?_⟩
  have et3 : t3 = t := str_ext (by rw [e13, ← lb2, sgt])
  rw [et3]
  have s813 := s812.trans s13
  refine ⟨_, rfl, t, rfl, _, rfl, iteF ⟨_, rfl, _, rfl, pd, pb, bw, rfl, hd12.same s13, h8.same s813, by omega, _, rfl, iteF ?_⟩⟩
  have s013 : Same H H13 := s1.trans (s2.trans (s27.trans (s8.trans s813)))
  have k0 := Int.emod_nonneg (ns.getD (1 : Int).toNat 0) (show (41 : Int) ≠ 0 by decide)
  have k1 := Int.emod_lt_of_pos (ns.getD (1 : Int).toNat 0) (show (0 : Int) < 41 by decide)
  refine ⟨_, rfl, _, rfl, a, ns, 1, rfl, s013.seq hS, by decide, _, _, rfl, rfl, pm (by decide), ?_⟩
  try dsimp only
  generalize ns.getD (1 : Int).toNat 0 % 41 = z at k0 k1 ⊢
  obtain ⟨k, rfl⟩ : ∃ k : Nat, z = (k : Int) := ⟨z.toNat, by omega⟩
  refine ⟨a, ns, k, 100, rfl, s013.seq hS, h63, by omega, by decide, by decide, fun pr rs b H14 s14 f14 h14 lr sb => ?_⟩
  have lrm : (rs.map V.int).length = rs.length := List.length_map _
  refine ⟨_, rfl, pr, _, rfl, .inl (SqL.of h14), fun pe hpe => ?_⟩
  have s15 := Same.new (Same.refl H14) hpe (.lst (rs.map V.int))
  have he15 : upd H14 pe (.lst (rs.map V.int)) pe = some (.lst (rs.map V.int)) := upd_same
  generalize upd H14 pe (.lst (rs.map V.int)) = H15 at s15 he15 ⊢
  refine ⟨pe, rs, rfl, SqL.of he15, sb.ok, by omega, fun t4 H16 s16 e16 => ?_⟩
  have s1416 := s15.trans s16
  have ct := clo_tx rs 0 0 (Int.le_refl _) (Int.le_refl _) sb.ok
  rw [Nat.zero_add] at ct
  have ct4 : clo 0 t4.cps.toList = true := by rw [e16]; exact ct
  have lt4 : t4.length = 2 * rs.length := by
    rw [← cps_len t4, clo_ends ct4, e16, tx_ups]
  have back : stR 0 t4.cps.toList = rs := by rw [e16]; exact st_tx rs 0 0 (Int.le_refl _) sb.ok
  refine ⟨_, rfl, _, _, _, _, _, rfl, relTy, .str _, kit_str_str, _, rfl, iteF ⟨_, rfl, t4, rfl, sz (by omega), _, rfl, pr, _, rfl, .inl (SqL.of (s1416 _ _ h14)), _, _, rfl, rfl, .inl ⟨by decide, by decide⟩, rfl, _, rfl, iteNS (congrArg V.int (by omega)) ⟨_, rfl, t4, rfl, _, rfl, ?_⟩⟩⟩
  rw [ct4]
  refine iteF ?_
  refine ⟨_, rfl, t4, rfl, ct4, by omega, fun p17 H17 s17 f17 h17 => ?_⟩
  rw [back] at h17
  exact ⟨_, rfl, p17, pr, rs, rfl, h17, (s1416.trans s17) _ _ h14, by omega, q _⟩
end
noncomputable def spL (K : PySem.W.Frag) : Sp := fun vs H Q _ => ∃ (a : Addr) (ns : List Int), vs = [.ref a] ∧ SqL K H a (ns.map V.int) ∧ ns.length ≤ 63 ∧ ∀ H', Q (.bl true) H'
theorem lenAll1 {P : List Value → Prop} (h : ∀ a0 : Value, P [a0]) : ∀ us : List Value, us.length = 1 → P us
  | [a0], _ => h a0
theorem lenAll2 {P : List Value → Prop} (h : ∀ a0 a1 : Value, P [a0, a1]) : ∀ us : List Value, us.length = 2 → P us
  | [a0, a1], _ => h a0 a1
theorem lenAll3 {P : List Value → Prop} (h : ∀ a0 a1 a2 : Value, P [a0, a1, a2]) : ∀ us : List Value, us.length = 3 → P us
  | [a0, a1, a2], _ => h a0 a1 a2
theorem all_mk {l : PySem.W.OpenLaw} {w : World} {K : PySem.W.Frag} {h : Heap} {mg : Str → Option Value} {fa : Addr} (X : K.In h) (G : h.Ns mainGlobals mg) (hfa : mg "law" = some (.ref fa)) {C_Brackets : Addr} {C_SplitFamily : Addr} {C_Family : Addr} {C_Stairs : Addr} {C_Bows : Addr}
    {f1 : Addr} {od1 an1 : Option Addr} {sl1 : Array (Option Value)} {oc1 kV1 dc1 pm1 cd1 ct1 : Value}
    {f2 : Addr} {od2 an2 : Option Addr} {sl2 : Array (Option Value)} {oc2 kV2 dc2 pm2 cd2 ct2 : Value}
    {f3 : Addr} {od3 an3 : Option Addr} {sl3 : Array (Option Value)} {oc3 kV3 dc3 pm3 cd3 ct3 : Value}
    {f4 : Addr} {od4 an4 : Option Addr} {sl4 : Array (Option Value)} {oc4 kV4 dc4 pm4 cd4 ct4 : Value}
    {f5 : Addr} {od5 an5 : Option Addr} {sl5 : Array (Option Value)} {oc5 kV5 dc5 pm5 cd5 ct5 : Value}
    {f6 : Addr} {od6 an6 : Option Addr} {sl6 : Array (Option Value)} {oc6 kV6 dc6 pm6 cd6 ct6 : Value}
    {f7 : Addr} {od7 an7 : Option Addr} {sl7 : Array (Option Value)} {oc7 kV7 dc7 pm7 cd7 ct7 : Value}
    {f8 : Addr} {od8 an8 : Option Addr} {sl8 : Array (Option Value)} {oc8 kV8 dc8 pm8 cd8 ct8 : Value}
    {f9 : Addr} {od9 an9 : Option Addr} {sl9 : Array (Option Value)} {oc9 kV9 dc9 pm9 cd9 ct9 : Value}
    {f10 : Addr} {od10 an10 : Option Addr} {sl10 : Array (Option Value)} {oc10 kV10 dc10 pm10 cd10 ct10 : Value}
    {f11 : Addr} {od11 an11 : Option Addr} {sl11 : Array (Option Value)} {oc11 kV11 dc11 pm11 cd11 ct11 : Value}
    {f12 : Addr} {od12 an12 : Option Addr} {sl12 : Array (Option Value)} {oc12 kV12 dc12 pm12 cd12 ct12 : Value}
    {f13 : Addr} {od13 an13 : Option Addr} {sl13 : Array (Option Value)} {oc13 kV13 dc13 pm13 cd13 ct13 : Value}
    {f14 : Addr} {od14 an14 : Option Addr} {sl14 : Array (Option Value)} {oc14 kV14 dc14 pm14 cd14 ct14 : Value}
    {f15 : Addr} {od15 an15 : Option Addr} {sl15 : Array (Option Value)} {oc15 kV15 dc15 pm15 cd15 ct15 : Value}
    {f16 : Addr} {od16 an16 : Option Addr} {sl16 : Array (Option Value)} {oc16 kV16 dc16 pm16 cd16 ct16 : Value}
    {f17 : Addr} {od17 an17 : Option Addr} {sl17 : Array (Option Value)} {oc17 kV17 dc17 pm17 cd17 ct17 : Value}
    {f18 : Addr} {od18 an18 : Option Addr} {sl18 : Array (Option Value)} {oc18 kV18 dc18 pm18 cd18 ct18 : Value}
    {f19 : Addr} {od19 an19 : Option Addr} {sl19 : Array (Option Value)} {oc19 kV19 dc19 pm19 cd19 ct19 : Value}
    {f20 : Addr} {od20 an20 : Option Addr} {sl20 : Array (Option Value)} {oc20 kV20 dc20 pm20 cd20 ct20 : Value}
    {f21 : Addr} {od21 an21 : Option Addr} {sl21 : Array (Option Value)} {oc21 kV21 dc21 pm21 cd21 ct21 : Value}
    {f22 : Addr} {od22 an22 : Option Addr} {sl22 : Array (Option Value)} {oc22 kV22 dc22 pm22 cd22 ct22 : Value}
    {f23 : Addr} {od23 an23 : Option Addr} {sl23 : Array (Option Value)} {oc23 kV23 dc23 pm23 cd23 ct23 : Value}
    {f24 : Addr} {od24 an24 : Option Addr} {sl24 : Array (Option Value)} {oc24 kV24 dc24 pm24 cd24 ct24 : Value}
    {f25 : Addr} {od25 an25 : Option Addr} {sl25 : Array (Option Value)} {oc25 kV25 dc25 pm25 cd25 ct25 : Value}
    {f26 : Addr} {od26 an26 : Option Addr} {sl26 : Array (Option Value)} {oc26 kV26 dc26 pm26 cd26 ct26 : Value}
    {f27 : Addr} {od27 an27 : Option Addr} {sl27 : Array (Option Value)} {oc27 kV27 dc27 pm27 cd27 ct27 : Value}
    {f28 : Addr} {od28 an28 : Option Addr} {sl28 : Array (Option Value)} {oc28 kV28 dc28 pm28 cd28 ct28 : Value}
    {f29 : Addr} {od29 an29 : Option Addr} {sl29 : Array (Option Value)} {oc29 kV29 dc29 pm29 cd29 ct29 : Value}
    {f30 : Addr} {od30 an30 : Option Addr} {sl30 : Array (Option Value)} {oc30 kV30 dc30 pm30 cd30 ct30 : Value}
    {f31 : Addr} {od31 an31 : Option Addr} {sl31 : Array (Option Value)} {oc31 kV31 dc31 pm31 cd31 ct31 : Value}
    {f32 : Addr} {od32 an32 : Option Addr} {sl32 : Array (Option Value)} {oc32 kV32 dc32 pm32 cd32 ct32 : Value}
    {f33 : Addr} {od33 an33 : Option Addr} {sl33 : Array (Option Value)} {oc33 kV33 dc33 pm33 cd33 ct33 : Value}
    {f34 : Addr} {od34 an34 : Option Addr} {sl34 : Array (Option Value)} {oc34 kV34 dc34 pm34 cd34 ct34 : Value}
    {f35 : Addr} {od35 an35 : Option Addr} {sl35 : Array (Option Value)} {oc35 kV35 dc35 pm35 cd35 ct35 : Value}
    {f36 : Addr} {od36 an36 : Option Addr} {sl36 : Array (Option Value)} {oc36 kV36 dc36 pm36 cd36 ct36 : Value}
    {f37 : Addr} {od37 an37 : Option Addr} {sl37 : Array (Option Value)} {oc37 kV37 dc37 pm37 cd37 ct37 : Value}
    (nc_Brackets : PySem.W.nsIn K mainGlobals "Brackets" = some (some (.ref C_Brackets)))
    (nc_SplitFamily : PySem.W.nsIn K mainGlobals "SplitFamily" = some (some (.ref C_SplitFamily)))
    (nc_Family : PySem.W.nsIn K mainGlobals "Family" = some (some (.ref C_Family)))
    (nc_Stairs : PySem.W.nsIn K mainGlobals "Stairs" = some (some (.ref C_Stairs)))
    (nc_Bows : PySem.W.nsIn K mainGlobals "Bows" = some (some (.ref C_Bows)))
    (a_Brackets_refuse_other : PySem.W.findIn K (.ref C_Brackets) "refuse_other" = some (some (.ref f11)))
    (a_Brackets_is_one : PySem.W.findIn K (.ref C_Brackets) "is_one" = some (some (.ref f10)))
    (a_Stairs_refuse_other : PySem.W.findIn K (.ref C_Stairs) "refuse_other" = some (some (.ref f20)))
    (a_Stairs_is_one : PySem.W.findIn K (.ref C_Stairs) "is_one" = some (some (.ref f19)))
    (a_Bows_refuse_other : PySem.W.findIn K (.ref C_Bows) "refuse_other" = some (some (.ref f33)))
    (a_Bows_is_one : PySem.W.findIn K (.ref C_Bows) "is_one" = some (some (.ref f32)))
    (ai_Brackets : PySem.W.findIn K (.ref C_Brackets) "__init__" = some (some (.ref f8)))
    (ai_Stairs : PySem.W.findIn K (.ref C_Stairs) "__init__" = some (some (.ref f18)))
    (ai_Bows : PySem.W.findIn K (.ref C_Bows) "__init__" = some (some (.ref f28)))
    (ch_SplitFamily___init___Brackets : PySem.W.findCls K (.ref C_SplitFamily) (.type "type") "__init__" = some (.val (.ref f7)))
    (cg_SplitFamily___init___Brackets : PySem.W.specialIn K (.ref C_SplitFamily) "__getattribute__" = some (some (.builtin "type.__getattribute__")))
    (cr_SplitFamily___init___Brackets : PySem.W.readsIn K C_SplitFamily (.type "type") = true)
    (ch_Family___init___Brackets : PySem.W.findCls K (.ref C_Family) (.type "type") "__init__" = some (.val (.ref f6)))
    (cg_Family___init___Brackets : PySem.W.specialIn K (.ref C_Family) "__getattribute__" = some (some (.builtin "type.__getattribute__")))
    (cr_Family___init___Brackets : PySem.W.readsIn K C_Family (.type "type") = true)
    (ch_SplitFamily___init___Stairs : PySem.W.findCls K (.ref C_SplitFamily) (.type "type") "__init__" = some (.val (.ref f17)))
    (cg_SplitFamily___init___Stairs : PySem.W.specialIn K (.ref C_SplitFamily) "__getattribute__" = some (some (.builtin "type.__getattribute__")))
    (cr_SplitFamily___init___Stairs : PySem.W.readsIn K C_SplitFamily (.type "type") = true)
    (ch_Family___init___Stairs : PySem.W.findCls K (.ref C_Family) (.type "type") "__init__" = some (.val (.ref f16)))
    (cg_Family___init___Stairs : PySem.W.specialIn K (.ref C_Family) "__getattribute__" = some (some (.builtin "type.__getattribute__")))
    (cr_Family___init___Stairs : PySem.W.readsIn K C_Family (.type "type") = true)
    (ch_SplitFamily___init___Bows : PySem.W.findCls K (.ref C_SplitFamily) (.type "type") "__init__" = some (.val (.ref f27)))
    (cg_SplitFamily___init___Bows : PySem.W.specialIn K (.ref C_SplitFamily) "__getattribute__" = some (some (.builtin "type.__getattribute__")))
    (cr_SplitFamily___init___Bows : PySem.W.readsIn K C_SplitFamily (.type "type") = true)
    (ch_Family___init___Bows : PySem.W.findCls K (.ref C_Family) (.type "type") "__init__" = some (.val (.ref f26)))
    (cg_Family___init___Bows : PySem.W.specialIn K (.ref C_Family) "__getattribute__" = some (some (.builtin "type.__getattribute__")))
    (cr_Family___init___Bows : PySem.W.readsIn K C_Family (.type "type") = true)
    (a1 : PySem.W.nsIn K mainGlobals "_law_mix" = some (some (.ref f1)))
    (l1 : K.lookup f1 = some ⟨oc1, od1, .func (PySem.W.fnOf "_law_mix" "_law_mix" (defArgs s__law_mix) (defBody s__law_mix) (defScope s__law_mix) .none kV1 dc1 pm1 an1 cd1 ct1), sl1⟩)
    (c1 : PySem.W.codeIn K cd1 "_law_mix" = true)
    (k1 : PySem.W.keepIn K (.ref f1) = true)
    (a2 : PySem.W.nsIn K mainGlobals "_law_draws" = some (some (.ref f2)))
    (l2 : K.lookup f2 = some ⟨oc2, od2, .func (PySem.W.fnOf "_law_draws" "_law_draws" (defArgs s__law_draws) (defBody s__law_draws) (defScope s__law_draws) .none kV2 dc2 pm2 an2 cd2 ct2), sl2⟩)
    (c2 : PySem.W.codeIn K cd2 "_law_draws" = true)
    (k2 : PySem.W.keepIn K (.ref f2) = true)
    (a3 : PySem.W.nsIn K mainGlobals "_law_text_by" = some (some (.ref f3)))
    (l3 : K.lookup f3 = some ⟨oc3, od3, .func (PySem.W.fnOf "_law_text_by" "_law_text_by" (defArgs s__law_text_by) (defBody s__law_text_by) (defScope s__law_text_by) .none kV3 dc3 pm3 an3 cd3 ct3), sl3⟩)
    (c3 : PySem.W.codeIn K cd3 "_law_text_by" = true)
    (k3 : PySem.W.keepIn K (.ref f3) = true)
    (a4 : PySem.W.nsIn K mainGlobals "_law_cell_at" = some (some (.ref f4)))
    (l4 : K.lookup f4 = some ⟨oc4, od4, .func (PySem.W.fnOf "_law_cell_at" "_law_cell_at" (defArgs s__law_cell_at) (defBody s__law_cell_at) (defScope s__law_cell_at) .none kV4 dc4 pm4 an4 cd4 ct4), sl4⟩)
    (c4 : PySem.W.codeIn K cd4 "_law_cell_at" = true)
    (k4 : PySem.W.keepIn K (.ref f4) = true)
    (a5 : PySem.W.nsIn K mainGlobals "_law_stairs_of" = some (some (.ref f5)))
    (l5 : K.lookup f5 = some ⟨oc5, od5, .func (PySem.W.fnOf "_law_stairs_of" "_law_stairs_of" (defArgs s__law_stairs_of) (defBody s__law_stairs_of) (defScope s__law_stairs_of) .none kV5 dc5 pm5 an5 cd5 ct5), sl5⟩)
    (c5 : PySem.W.codeIn K cd5 "_law_stairs_of" = true)
    (k5 : PySem.W.keepIn K (.ref f5) = true)
    (l6 : K.lookup f6 = some ⟨oc6, od6, .func (PySem.W.fnOf "__init__" "Family.__init__" (defArgs s_Brackets__Family___init__) (defBody s_Brackets__Family___init__) (defScope s_Brackets__Family___init__) .none kV6 dc6 pm6 an6 cd6 ct6), sl6⟩)
    (c6 : PySem.W.codeIn K cd6 "Family.__init__" = true)
    (k6 : PySem.W.keepIn K (.ref f6) = true)
    (i6 : PySem.W.isFn K (.ref f6) = true)
    (l7 : K.lookup f7 = some ⟨oc7, od7, .func (PySem.W.fnOf "__init__" "SplitFamily.__init__" (defArgs s_Brackets__SplitFamily___init__) (defBody s_Brackets__SplitFamily___init__) (defScope s_Brackets__SplitFamily___init__) .none kV7 dc7 pm7 an7 cd7 ct7), sl7⟩)
    (c7 : PySem.W.codeIn K cd7 "SplitFamily.__init__" = true)
    (k7 : PySem.W.keepIn K (.ref f7) = true)
    (i7 : PySem.W.isFn K (.ref f7) = true)
    (l8 : K.lookup f8 = some ⟨oc8, od8, .func (PySem.W.fnOf "__init__" "Brackets.__init__" (defArgs s_Brackets____init__) (defBody s_Brackets____init__) (defScope s_Brackets____init__) .none kV8 dc8 pm8 an8 cd8 ct8), sl8⟩)
    (c8 : PySem.W.codeIn K cd8 "Brackets.__init__" = true)
    (k8 : PySem.W.keepIn K (.ref f8) = true)
    (i8 : PySem.W.isFn K (.ref f8) = true)
    (a9 : PySem.W.nsIn K mainGlobals "closes" = some (some (.ref f9)))
    (l9 : K.lookup f9 = some ⟨oc9, od9, .func (PySem.W.fnOf "closes" "closes" (defArgs s_closes) (defBody s_closes) (defScope s_closes) .none kV9 dc9 pm9 an9 cd9 ct9), sl9⟩)
    (c9 : PySem.W.codeIn K cd9 "closes" = true)
    (k9 : PySem.W.keepIn K (.ref f9) = true)
    (l10 : K.lookup f10 = some ⟨oc10, od10, .func (PySem.W.fnOf "is_one" "Brackets.is_one" (defArgs s_Brackets__is_one) (defBody s_Brackets__is_one) (defScope s_Brackets__is_one) .none kV10 dc10 pm10 an10 cd10 ct10), sl10⟩)
    (c10 : PySem.W.codeIn K cd10 "Brackets.is_one" = true)
    (k10 : PySem.W.keepIn K (.ref f10) = true)
    (i10 : PySem.W.isFn K (.ref f10) = true)
    (l11 : K.lookup f11 = some ⟨oc11, od11, .func (PySem.W.fnOf "refuse_other" "Family.refuse_other" (defArgs s_Brackets__Family_refuse_other) (defBody s_Brackets__Family_refuse_other) (defScope s_Brackets__Family_refuse_other) .none kV11 dc11 pm11 an11 cd11 ct11), sl11⟩)
    (c11 : PySem.W.codeIn K cd11 "Family.refuse_other" = true)
    (k11 : PySem.W.keepIn K (.ref f11) = true)
    (i11 : PySem.W.isFn K (.ref f11) = true)
    (a12 : PySem.W.nsIn K mainGlobals "brackets_to_stairs" = some (some (.ref f12)))
    (l12 : K.lookup f12 = some ⟨oc12, od12, .func (PySem.W.fnOf "brackets_to_stairs" "brackets_to_stairs" (defArgs s_brackets_to_stairs) (defBody s_brackets_to_stairs) (defScope s_brackets_to_stairs) .none kV12 dc12 pm12 an12 cd12 ct12), sl12⟩)
    (c12 : PySem.W.codeIn K cd12 "brackets_to_stairs" = true)
    (k12 : PySem.W.keepIn K (.ref f12) = true)
    (a13 : PySem.W.nsIn K mainGlobals "_law_whole" = some (some (.ref f13)))
    (l13 : K.lookup f13 = some ⟨oc13, od13, .func (PySem.W.fnOf "_law_whole" "_law_whole" (defArgs s__law_whole) (defBody s__law_whole) (defScope s__law_whole) .none kV13 dc13 pm13 an13 cd13 ct13), sl13⟩)
    (c13 : PySem.W.codeIn K cd13 "_law_whole" = true)
    (k13 : PySem.W.keepIn K (.ref f13) = true)
    (a14 : PySem.W.nsIn K mainGlobals "_law_numbers" = some (some (.ref f14)))
    (l14 : K.lookup f14 = some ⟨oc14, od14, .func (PySem.W.fnOf "_law_numbers" "_law_numbers" (defArgs s__law_numbers) (defBody s__law_numbers) (defScope s__law_numbers) .none kV14 dc14 pm14 an14 cd14 ct14), sl14⟩)
    (c14 : PySem.W.codeIn K cd14 "_law_numbers" = true)
    (k14 : PySem.W.keepIn K (.ref f14) = true)
    (a15 : PySem.W.nsIn K mainGlobals "_law_text" = some (some (.ref f15)))
    (l15 : K.lookup f15 = some ⟨oc15, od15, .func (PySem.W.fnOf "_law_text" "_law_text" (defArgs s__law_text) (defBody s__law_text) (defScope s__law_text) .none kV15 dc15 pm15 an15 cd15 ct15), sl15⟩)
    (c15 : PySem.W.codeIn K cd15 "_law_text" = true)
    (k15 : PySem.W.keepIn K (.ref f15) = true)
    (l16 : K.lookup f16 = some ⟨oc16, od16, .func (PySem.W.fnOf "__init__" "Family.__init__" (defArgs s_Stairs__Family___init__) (defBody s_Stairs__Family___init__) (defScope s_Stairs__Family___init__) .none kV16 dc16 pm16 an16 cd16 ct16), sl16⟩)
    (c16 : PySem.W.codeIn K cd16 "Family.__init__" = true)
    (k16 : PySem.W.keepIn K (.ref f16) = true)
    (i16 : PySem.W.isFn K (.ref f16) = true)
    (l17 : K.lookup f17 = some ⟨oc17, od17, .func (PySem.W.fnOf "__init__" "SplitFamily.__init__" (defArgs s_Stairs__SplitFamily___init__) (defBody s_Stairs__SplitFamily___init__) (defScope s_Stairs__SplitFamily___init__) .none kV17 dc17 pm17 an17 cd17 ct17), sl17⟩)
    (c17 : PySem.W.codeIn K cd17 "SplitFamily.__init__" = true)
    (k17 : PySem.W.keepIn K (.ref f17) = true)
    (i17 : PySem.W.isFn K (.ref f17) = true)
    (l18 : K.lookup f18 = some ⟨oc18, od18, .func (PySem.W.fnOf "__init__" "Stairs.__init__" (defArgs s_Stairs____init__) (defBody s_Stairs____init__) (defScope s_Stairs____init__) .none kV18 dc18 pm18 an18 cd18 ct18), sl18⟩)
    (c18 : PySem.W.codeIn K cd18 "Stairs.__init__" = true)
    (k18 : PySem.W.keepIn K (.ref f18) = true)
    (i18 : PySem.W.isFn K (.ref f18) = true)
    (l19 : K.lookup f19 = some ⟨oc19, od19, .func (PySem.W.fnOf "is_one" "Stairs.is_one" (defArgs s_Stairs__is_one) (defBody s_Stairs__is_one) (defScope s_Stairs__is_one) .none kV19 dc19 pm19 an19 cd19 ct19), sl19⟩)
    (c19 : PySem.W.codeIn K cd19 "Stairs.is_one" = true)
    (k19 : PySem.W.keepIn K (.ref f19) = true)
    (i19 : PySem.W.isFn K (.ref f19) = true)
    (l20 : K.lookup f20 = some ⟨oc20, od20, .func (PySem.W.fnOf "refuse_other" "Family.refuse_other" (defArgs s_Stairs__Family_refuse_other) (defBody s_Stairs__Family_refuse_other) (defScope s_Stairs__Family_refuse_other) .none kV20 dc20 pm20 an20 cd20 ct20), sl20⟩)
    (c20 : PySem.W.codeIn K cd20 "Family.refuse_other" = true)
    (k20 : PySem.W.keepIn K (.ref f20) = true)
    (i20 : PySem.W.isFn K (.ref f20) = true)
    (a21 : PySem.W.nsIn K mainGlobals "stairs_to_brackets" = some (some (.ref f21)))
    (l21 : K.lookup f21 = some ⟨oc21, od21, .func (PySem.W.fnOf "stairs_to_brackets" "stairs_to_brackets" (defArgs s_stairs_to_brackets) (defBody s_stairs_to_brackets) (defScope s_stairs_to_brackets) .none kV21 dc21 pm21 an21 cd21 ct21), sl21⟩)
    (c21 : PySem.W.codeIn K cd21 "stairs_to_brackets" = true)
    (k21 : PySem.W.keepIn K (.ref f21) = true)
    (a22 : PySem.W.nsIn K mainGlobals "_law_mate" = some (some (.ref f22)))
    (l22 : K.lookup f22 = some ⟨oc22, od22, .func (PySem.W.fnOf "_law_mate" "_law_mate" (defArgs s__law_mate) (defBody s__law_mate) (defScope s__law_mate) .none kV22 dc22 pm22 an22 cd22 ct22), sl22⟩)
    (c22 : PySem.W.codeIn K cd22 "_law_mate" = true)
    (k22 : PySem.W.keepIn K (.ref f22) = true)
    (a23 : PySem.W.nsIn K mainGlobals "_law_bows_of" = some (some (.ref f23)))
    (l23 : K.lookup f23 = some ⟨oc23, od23, .func (PySem.W.fnOf "_law_bows_of" "_law_bows_of" (defArgs s__law_bows_of) (defBody s__law_bows_of) (defScope s__law_bows_of) .none kV23 dc23 pm23 an23 cd23 ct23), sl23⟩)
    (c23 : PySem.W.codeIn K cd23 "_law_bows_of" = true)
    (k23 : PySem.W.keepIn K (.ref f23) = true)
    (a24 : PySem.W.nsIn K mainGlobals "brackets_to_bows" = some (some (.ref f24)))
    (l24 : K.lookup f24 = some ⟨oc24, od24, .func (PySem.W.fnOf "brackets_to_bows" "brackets_to_bows" (defArgs s_brackets_to_bows) (defBody s_brackets_to_bows) (defScope s_brackets_to_bows) .none kV24 dc24 pm24 an24 cd24 ct24), sl24⟩)
    (c24 : PySem.W.codeIn K cd24 "brackets_to_bows" = true)
    (k24 : PySem.W.keepIn K (.ref f24) = true)
    (a25 : PySem.W.nsIn K mainGlobals "_law_pairs" = some (some (.ref f25)))
    (l25 : K.lookup f25 = some ⟨oc25, od25, .func (PySem.W.fnOf "_law_pairs" "_law_pairs" (defArgs s__law_pairs) (defBody s__law_pairs) (defScope s__law_pairs) .none kV25 dc25 pm25 an25 cd25 ct25), sl25⟩)
    (c25 : PySem.W.codeIn K cd25 "_law_pairs" = true)
    (k25 : PySem.W.keepIn K (.ref f25) = true)
    (l26 : K.lookup f26 = some ⟨oc26, od26, .func (PySem.W.fnOf "__init__" "Family.__init__" (defArgs s_Bows__Family___init__) (defBody s_Bows__Family___init__) (defScope s_Bows__Family___init__) .none kV26 dc26 pm26 an26 cd26 ct26), sl26⟩)
    (c26 : PySem.W.codeIn K cd26 "Family.__init__" = true)
    (k26 : PySem.W.keepIn K (.ref f26) = true)
    (i26 : PySem.W.isFn K (.ref f26) = true)
    (l27 : K.lookup f27 = some ⟨oc27, od27, .func (PySem.W.fnOf "__init__" "SplitFamily.__init__" (defArgs s_Bows__SplitFamily___init__) (defBody s_Bows__SplitFamily___init__) (defScope s_Bows__SplitFamily___init__) .none kV27 dc27 pm27 an27 cd27 ct27), sl27⟩)
    (c27 : PySem.W.codeIn K cd27 "SplitFamily.__init__" = true)
    (k27 : PySem.W.keepIn K (.ref f27) = true)
    (i27 : PySem.W.isFn K (.ref f27) = true)
    (l28 : K.lookup f28 = some ⟨oc28, od28, .func (PySem.W.fnOf "__init__" "Bows.__init__" (defArgs s_Bows____init__) (defBody s_Bows____init__) (defScope s_Bows____init__) .none kV28 dc28 pm28 an28 cd28 ct28), sl28⟩)
    (c28 : PySem.W.codeIn K cd28 "Bows.__init__" = true)
    (k28 : PySem.W.keepIn K (.ref f28) = true)
    (i28 : PySem.W.isFn K (.ref f28) = true)
    (a29 : PySem.W.nsIn K mainGlobals "each_once" = some (some (.ref f29)))
    (l29 : K.lookup f29 = some ⟨oc29, od29, .func (PySem.W.fnOf "each_once" "each_once" (defArgs s_each_once) (defBody s_each_once) (defScope s_each_once) .none kV29 dc29 pm29 an29 cd29 ct29), sl29⟩)
    (c29 : PySem.W.codeIn K cd29 "each_once" = true)
    (k29 : PySem.W.keepIn K (.ref f29) = true)
    (a30 : PySem.W.nsIn K mainGlobals "flat" = some (some (.ref f30)))
    (l30 : K.lookup f30 = some ⟨oc30, od30, .func (PySem.W.fnOf "flat" "flat" (defArgs s_flat) (defBody s_flat) (defScope s_flat) .none kV30 dc30 pm30 an30 cd30 ct30), sl30⟩)
    (c30 : PySem.W.codeIn K cd30 "flat" = true)
    (k30 : PySem.W.keepIn K (.ref f30) = true)
    (a31 : PySem.W.nsIn K mainGlobals "any_cross" = some (some (.ref f31)))
    (l31 : K.lookup f31 = some ⟨oc31, od31, .func (PySem.W.fnOf "any_cross" "any_cross" (defArgs s_any_cross) (defBody s_any_cross) (defScope s_any_cross) .none kV31 dc31 pm31 an31 cd31 ct31), sl31⟩)
    (c31 : PySem.W.codeIn K cd31 "any_cross" = true)
    (k31 : PySem.W.keepIn K (.ref f31) = true)
    (l32 : K.lookup f32 = some ⟨oc32, od32, .func (PySem.W.fnOf "is_one" "Bows.is_one" (defArgs s_Bows__is_one) (defBody s_Bows__is_one) (defScope s_Bows__is_one) .none kV32 dc32 pm32 an32 cd32 ct32), sl32⟩)
    (c32 : PySem.W.codeIn K cd32 "Bows.is_one" = true)
    (k32 : PySem.W.keepIn K (.ref f32) = true)
    (i32 : PySem.W.isFn K (.ref f32) = true)
    (l33 : K.lookup f33 = some ⟨oc33, od33, .func (PySem.W.fnOf "refuse_other" "Family.refuse_other" (defArgs s_Bows__Family_refuse_other) (defBody s_Bows__Family_refuse_other) (defScope s_Bows__Family_refuse_other) .none kV33 dc33 pm33 an33 cd33 ct33), sl33⟩)
    (c33 : PySem.W.codeIn K cd33 "Family.refuse_other" = true)
    (k33 : PySem.W.keepIn K (.ref f33) = true)
    (i33 : PySem.W.isFn K (.ref f33) = true)
    (a34 : PySem.W.nsIn K mainGlobals "bows_to_brackets" = some (some (.ref f34)))
    (l34 : K.lookup f34 = some ⟨oc34, od34, .func (PySem.W.fnOf "bows_to_brackets" "bows_to_brackets" (defArgs s_bows_to_brackets) (defBody s_bows_to_brackets) (defScope s_bows_to_brackets) .none kV34 dc34 pm34 an34 cd34 ct34), sl34⟩)
    (c34 : PySem.W.codeIn K cd34 "bows_to_brackets" = true)
    (k34 : PySem.W.keepIn K (.ref f34) = true)
    (a35 : PySem.W.nsIn K mainGlobals "_law_stairs_by" = some (some (.ref f35)))
    (l35 : K.lookup f35 = some ⟨oc35, od35, .func (PySem.W.fnOf "_law_stairs_by" "_law_stairs_by" (defArgs s__law_stairs_by) (defBody s__law_stairs_by) (defScope s__law_stairs_by) .none kV35 dc35 pm35 an35 cd35 ct35), sl35⟩)
    (c35 : PySem.W.codeIn K cd35 "_law_stairs_by" = true)
    (k35 : PySem.W.keepIn K (.ref f35) = true)
    (a36 : PySem.W.nsIn K mainGlobals "_law_closes" = some (some (.ref f36)))
    (l36 : K.lookup f36 = some ⟨oc36, od36, .func (PySem.W.fnOf "_law_closes" "_law_closes" (defArgs s__law_closes) (defBody s__law_closes) (defScope s__law_closes) .none kV36 dc36 pm36 an36 cd36 ct36), sl36⟩)
    (c36 : PySem.W.codeIn K cd36 "_law_closes" = true)
    (k36 : PySem.W.keepIn K (.ref f36) = true)
    (a37 : PySem.W.nsIn K mainGlobals "law" = some (some (.ref f37)))
    (l37 : K.lookup f37 = some ⟨oc37, od37, .func (PySem.W.fnOf "law" "law" (defArgs s_law) (defBody s_law) (defScope s_law) .none kV37 dc37 pm37 an37 cd37 ct37), sl37⟩)
    (c37 : PySem.W.codeIn K cd37 "law" = true)
    (k37 : PySem.W.keepIn K (.ref f37) = true)
    (pg_Brackets : PySem.W.plainGet K C_Brackets Str.empty = true)
    (hd_Brackets : PySem.W.hasDictIn K C_Brackets = true)
    (po_Brackets : PySem.W.plainOver K C_Brackets = true)
    (sa_Brackets : PySem.W.findIn K (.ref C_Brackets) "__setattr__" = some (some (.builtin "object.__setattr__")))
    (pg_Stairs : PySem.W.plainGet K C_Stairs Str.empty = true)
    (hd_Stairs : PySem.W.hasDictIn K C_Stairs = true)
    (po_Stairs : PySem.W.plainOver K C_Stairs = true)
    (sa_Stairs : PySem.W.findIn K (.ref C_Stairs) "__setattr__" = some (some (.builtin "object.__setattr__")))
    (pg_Bows : PySem.W.plainGet K C_Bows Str.empty = true)
    (hd_Bows : PySem.W.hasDictIn K C_Bows = true)
    (po_Bows : PySem.W.plainOver K C_Bows = true)
    (sa_Bows : PySem.W.findIn K (.ref C_Bows) "__setattr__" = some (some (.builtin "object.__setattr__")))
    (mk_Brackets : PySem.W.makesIn K C_Brackets = true)
    (kc_Brackets : PySem.W.keepIn K (.ref C_Brackets) = true)
    (mk_Stairs : PySem.W.makesIn K C_Stairs = true)
    (kc_Stairs : PySem.W.keepIn K (.ref C_Stairs) = true)
    (mk_Bows : PySem.W.makesIn K C_Bows = true)
    (kc_Bows : PySem.W.keepIn K (.ref C_Bows) = true)
    (na_Brackets_word : PySem.W.findIn K (.ref C_Brackets) "word" = some none)
    (na_Brackets_least : PySem.W.findIn K (.ref C_Brackets) "least" = some none)
    (na_Stairs_word : PySem.W.findIn K (.ref C_Stairs) "word" = some none)
    (na_Stairs_least : PySem.W.findIn K (.ref C_Stairs) "least" = some none)
    (na_Bows_word : PySem.W.findIn K (.ref C_Bows) "word" = some none)
    (na_Bows_least : PySem.W.findIn K (.ref C_Bows) "least" = some none)
    (z_range : PySem.W.nsIn K mainGlobals "range" = some none)
    (z_len : PySem.W.nsIn K mainGlobals "len" = some none)
    (z_isinstance : PySem.W.nsIn K mainGlobals "isinstance" = some none)
    (z_int : PySem.W.nsIn K mainGlobals "int" = some none)
    (z_bool : PySem.W.nsIn K mainGlobals "bool" = some none)
    (z_list : PySem.W.nsIn K mainGlobals "list" = some none)
    (z_str : PySem.W.nsIn K mainGlobals "str" = some none)
    (z_enumerate : PySem.W.nsIn K mainGlobals "enumerate" = some none)
    (z_sorted : PySem.W.nsIn K mainGlobals "sorted" = some none)
    (z_tuple : PySem.W.nsIn K mainGlobals "tuple" = some none)
    (z_all : PySem.W.nsIn K mainGlobals "all" = some none) :
    ∃ fd : FuncData, (∀ (s : Shared) (v : Value), BindsTo s fd ⟨[v], []⟩ [("_law_script", v)]) ∧ ∀ base : Heap, K.In base → base.Ns mainGlobals mg → FnOk l.prog w K mg base CX0 8 fa fd ["_law_script"] (spL K) := by
  have e := hfa.symm.trans (PySem.W.mg_of X G a37)
  cases e
  have CA : ClOk K mg ⟨C_Brackets, C_SplitFamily, C_Family, C_Stairs, C_Bows, f6, f7, f8, f10, f11, f16, f17, f18, f19, f20, f26, f27, f28, f32, f33⟩ := ⟨PySem.W.mg_of X G nc_Brackets, PySem.W.mg_of X G nc_SplitFamily, PySem.W.mg_of X G nc_Family, PySem.W.mg_of X G nc_Stairs, PySem.W.mg_of X G nc_Bows, ⟨pg_Brackets, hd_Brackets, po_Brackets, sa_Brackets⟩, ⟨pg_Stairs, hd_Stairs, po_Stairs, sa_Stairs⟩, ⟨pg_Bows, hd_Bows, po_Bows, sa_Bows⟩, ⟨a_Brackets_refuse_other, i11, k11⟩, ⟨a_Brackets_is_one, i10, k10⟩, ⟨a_Stairs_refuse_other, i20, k20⟩, ⟨a_Stairs_is_one, i19, k19⟩, ⟨a_Bows_refuse_other, i33, k33⟩, ⟨a_Bows_is_one, i32, k32⟩, ⟨mk_Brackets, ai_Brackets, i8, kc_Brackets⟩, ⟨mk_Stairs, ai_Stairs, i18, kc_Stairs⟩, ⟨mk_Bows, ai_Bows, i28, kc_Bows⟩, ⟨cg_SplitFamily___init___Brackets, cr_SplitFamily___init___Brackets, ch_SplitFamily___init___Brackets, k7⟩, ⟨cg_Family___init___Brackets, cr_Family___init___Brackets, ch_Family___init___Brackets, k6⟩, ⟨cg_SplitFamily___init___Stairs, cr_SplitFamily___init___Stairs, ch_SplitFamily___init___Stairs, k17⟩, ⟨cg_Family___init___Stairs, cr_Family___init___Stairs, ch_Family___init___Stairs, k16⟩, ⟨cg_SplitFamily___init___Bows, cr_SplitFamily___init___Bows, ch_SplitFamily___init___Bows, k27⟩, ⟨cg_Family___init___Bows, cr_Family___init___Bows, ch_Family___init___Bows, k26⟩, na_Brackets_word, na_Brackets_least, na_Stairs_word, na_Stairs_least, na_Bows_word, na_Bows_least⟩
  have F1 := fun_mk (st := s__law_mix) l1 c1 k1
  have b1 := F1.binds (ps := ["_law_cell", "_law_turn"]) fun _ _ _ _ _ _ => lenAll2 (fun _ _ => rfl)
  have F2 := fun_mk (st := s__law_draws) l2 c2 k2
  have b2 := F2.binds (ps := ["_law_script", "_law_turn", "_law_many"]) fun _ _ _ _ _ _ => lenAll3 (fun _ _ _ => rfl)
  have F3 := fun_mk (st := s__law_text_by) l3 c3 k3
  have b3 := F3.binds (ps := ["_law_script", "_law_size", "_law_turn"]) fun _ _ _ _ _ _ => lenAll3 (fun _ _ _ => rfl)
  have F4 := fun_mk (st := s__law_cell_at) l4 c4 k4
  have b4 := F4.binds (ps := ["_law_script", "_law_k"]) fun _ _ _ _ _ _ => lenAll2 (fun _ _ => rfl)
  have F5 := fun_mk (st := s__law_stairs_of) l5 c5 k5
  have b5 := F5.binds (ps := ["_law_text_here"]) fun _ _ _ _ _ _ => lenAll1 (fun _ => rfl)
  have F6 := fun_mk (st := s_Brackets__Family___init__) l6 c6 k6
  have b6 := F6.binds (ps := ["self", "word", "least"]) fun _ _ _ _ _ _ => lenAll3 (fun _ _ _ => rfl)
  have F7 := fun_mk (st := s_Brackets__SplitFamily___init__) l7 c7 k7
  have b7 := F7.binds (ps := ["self", "word"]) fun _ _ _ _ _ _ => lenAll2 (fun _ _ => rfl)
  have F8 := fun_mk (st := s_Brackets____init__) l8 c8 k8
  have b8 := F8.binds (ps := ["self"]) fun _ _ _ _ _ _ => lenAll1 (fun _ => rfl)
  have F9 := fun_mk (st := s_closes) l9 c9 k9
  have b9 := F9.binds (ps := ["text"]) fun _ _ _ _ _ _ => lenAll1 (fun _ => rfl)
  have F10 := fun_mk (st := s_Brackets__is_one) l10 c10 k10
  have b10 := F10.binds (ps := ["self", "thing"]) fun _ _ _ _ _ _ => lenAll2 (fun _ _ => rfl)
  have F11 := fun_mk (st := s_Brackets__Family_refuse_other) l11 c11 k11
  have b11 := F11.binds (ps := ["self", "thing"]) fun _ _ _ _ _ _ => lenAll2 (fun _ _ => rfl)
  have F12 := fun_mk (st := s_brackets_to_stairs) l12 c12 k12
  have b12 := F12.binds (ps := ["thing"]) fun _ _ _ _ _ _ => lenAll1 (fun _ => rfl)
  have F13 := fun_mk (st := s__law_whole) l13 c13 k13
  have b13 := F13.binds (ps := ["_law_found"]) fun _ _ _ _ _ _ => lenAll1 (fun _ => rfl)
  have F14 := fun_mk (st := s__law_numbers) l14 c14 k14
  have b14 := F14.binds (ps := ["_law_found", "_law_due"]) fun _ _ _ _ _ _ => lenAll2 (fun _ _ => rfl)
  have F15 := fun_mk (st := s__law_text) l15 c15 k15
  have b15 := F15.binds (ps := ["_law_found", "_law_due"]) fun _ _ _ _ _ _ => lenAll2 (fun _ _ => rfl)
  have F16 := fun_mk (st := s_Stairs__Family___init__) l16 c16 k16
  have b16 := F16.binds (ps := ["self", "word", "least"]) fun _ _ _ _ _ _ => lenAll3 (fun _ _ _ => rfl)
  have F17 := fun_mk (st := s_Stairs__SplitFamily___init__) l17 c17 k17
  have b17 := F17.binds (ps := ["self", "word"]) fun _ _ _ _ _ _ => lenAll2 (fun _ _ => rfl)
  have F18 := fun_mk (st := s_Stairs____init__) l18 c18 k18
  have b18 := F18.binds (ps := ["self"]) fun _ _ _ _ _ _ => lenAll1 (fun _ => rfl)
  have F19 := fun_mk (st := s_Stairs__is_one) l19 c19 k19
  have b19 := F19.binds (ps := ["self", "thing"]) fun _ _ _ _ _ _ => lenAll2 (fun _ _ => rfl)
  have F20 := fun_mk (st := s_Stairs__Family_refuse_other) l20 c20 k20
  have b20 := F20.binds (ps := ["self", "thing"]) fun _ _ _ _ _ _ => lenAll2 (fun _ _ => rfl)
  have F21 := fun_mk (st := s_stairs_to_brackets) l21 c21 k21
  have b21 := F21.binds (ps := ["thing"]) fun _ _ _ _ _ _ => lenAll1 (fun _ => rfl)
  have F22 := fun_mk (st := s__law_mate) l22 c22 k22
  have b22 := F22.binds (ps := ["_law_text_here", "_law_at"]) fun _ _ _ _ _ _ => lenAll2 (fun _ _ => rfl)
  have F23 := fun_mk (st := s__law_bows_of) l23 c23 k23
  have b23 := F23.binds (ps := ["_law_text_here"]) fun _ _ _ _ _ _ => lenAll1 (fun _ => rfl)
  have F24 := fun_mk (st := s_brackets_to_bows) l24 c24 k24
  have b24 := F24.binds (ps := ["thing"]) fun _ _ _ _ _ _ => lenAll1 (fun _ => rfl)
  have F25 := fun_mk (st := s__law_pairs) l25 c25 k25
  have b25 := F25.binds (ps := ["_law_found", "_law_due"]) fun _ _ _ _ _ _ => lenAll2 (fun _ _ => rfl)
  have F26 := fun_mk (st := s_Bows__Family___init__) l26 c26 k26
  have b26 := F26.binds (ps := ["self", "word", "least"]) fun _ _ _ _ _ _ => lenAll3 (fun _ _ _ => rfl)
  have F27 := fun_mk (st := s_Bows__SplitFamily___init__) l27 c27 k27
  have b27 := F27.binds (ps := ["self", "word"]) fun _ _ _ _ _ _ => lenAll2 (fun _ _ => rfl)
  have F28 := fun_mk (st := s_Bows____init__) l28 c28 k28
  have b28 := F28.binds (ps := ["self"]) fun _ _ _ _ _ _ => lenAll1 (fun _ => rfl)
  have F29 := fun_mk (st := s_each_once) l29 c29 k29
  have b29 := F29.binds (ps := ["numbers"]) fun _ _ _ _ _ _ => lenAll1 (fun _ => rfl)
  have F30 := fun_mk (st := s_flat) l30 c30 k30
  have b30 := F30.binds (ps := ["rows"]) fun _ _ _ _ _ _ => lenAll1 (fun _ => rfl)
  have F31 := fun_mk (st := s_any_cross) l31 c31 k31
  have b31 := F31.binds (ps := ["pairs"]) fun _ _ _ _ _ _ => lenAll1 (fun _ => rfl)
  have F32 := fun_mk (st := s_Bows__is_one) l32 c32 k32
  have b32 := F32.binds (ps := ["self", "thing"]) fun _ _ _ _ _ _ => lenAll2 (fun _ _ => rfl)
  have F33 := fun_mk (st := s_Bows__Family_refuse_other) l33 c33 k33
  have b33 := F33.binds (ps := ["self", "thing"]) fun _ _ _ _ _ _ => lenAll2 (fun _ _ => rfl)
  have F34 := fun_mk (st := s_bows_to_brackets) l34 c34 k34
  have b34 := F34.binds (ps := ["thing"]) fun _ _ _ _ _ _ => lenAll1 (fun _ => rfl)
  have F35 := fun_mk (st := s__law_stairs_by) l35 c35 k35
  have b35 := F35.binds (ps := ["_law_script", "_law_size", "_law_turn"]) fun _ _ _ _ _ _ => lenAll3 (fun _ _ _ => rfl)
  have F36 := fun_mk (st := s__law_closes) l36 c36 k36
  have b36 := F36.binds (ps := ["_law_text_here"]) fun _ _ _ _ _ _ => lenAll1 (fun _ => rfl)
  have F37 := fun_mk (st := s_law) l37 c37 k37
  have m_range := PySem.W.mg_none_of X G z_range
  have m_len := PySem.W.mg_none_of X G z_len
  have m_isinstance := PySem.W.mg_none_of X G z_isinstance
  have m_int := PySem.W.mg_none_of X G z_int
  have m_bool := PySem.W.mg_none_of X G z_bool
  have m_list := PySem.W.mg_none_of X G z_list
  have m_str := PySem.W.mg_none_of X G z_str
  have m_enumerate := PySem.W.mg_none_of X G z_enumerate
  have m_sorted := PySem.W.mg_none_of X G z_sorted
  have m_tuple := PySem.W.mg_none_of X G z_tuple
  have m_all := PySem.W.mg_none_of X G z_all
  refine ⟨PySem.W.fnOf "law" "law" (defArgs s_law) (defBody s_law) (defScope s_law) .none kV37 dc37 pm37 an37 cd37 ct37, fun s v => .of_eq rfl, fun base _ _ => ?_⟩
  have d__law_mix : Def l.prog w K mg base "_law_mix" ["_law_cell", "_law_turn"] 1 (sp__law_mix K _) f1 _ := ⟨(ok__law_mix (P := l.prog) (w := w) (base := base) CA F1).up, b1, k1, PySem.W.mg_of X G a1⟩
  have d__law_draws : Def l.prog w K mg base "_law_draws" ["_law_script", "_law_turn", "_law_many"] 2 (sp__law_draws K _) f2 _ := ⟨(ok__law_draws (P := l.prog) (w := w) (base := base) CA F2 d__law_mix m_range m_len).up, b2, k2, PySem.W.mg_of X G a2⟩
  have d__law_text_by : Def l.prog w K mg base "_law_text_by" ["_law_script", "_law_size", "_law_turn"] 3 (sp__law_text_by K _) f3 _ := ⟨(ok__law_text_by (P := l.prog) (w := w) (base := base) CA F3 d__law_draws m_range).up, b3, k3, PySem.W.mg_of X G a3⟩
  have d__law_cell_at : Def l.prog w K mg base "_law_cell_at" ["_law_script", "_law_k"] 1 (sp__law_cell_at K _) f4 _ := ⟨(ok__law_cell_at (P := l.prog) (w := w) (base := base) CA F4 m_len).up, b4, k4, PySem.W.mg_of X G a4⟩
  have d__law_stairs_of : Def l.prog w K mg base "_law_stairs_of" ["_law_text_here"] 1 (sp__law_stairs_of K _) f5 _ := ⟨(ok__law_stairs_of (P := l.prog) (w := w) (base := base) CA F5 m_range m_len).up, b5, k5, PySem.W.mg_of X G a5⟩
  have d_Brackets__Family___init__ : MDef l.prog w K mg base ["self", "word", "least"] 1 (sp_Brackets__Family___init__ K _) f6 _ := ⟨(ok_Brackets__Family___init__ (P := l.prog) (w := w) (base := base) CA F6).up, b6⟩
  have d_Brackets__SplitFamily___init__ : MDef l.prog w K mg base ["self", "word"] 3 (sp_Brackets__SplitFamily___init__ K _) f7 _ := ⟨(ok_Brackets__SplitFamily___init__ (P := l.prog) (w := w) (base := base) CA F7 d_Brackets__Family___init__).up, b7⟩
  have d_Brackets____init__ : MDef l.prog w K mg base ["self"] 5 (sp_Brackets____init__ K _) f8 _ := ⟨(ok_Brackets____init__ (P := l.prog) (w := w) (base := base) CA F8 d_Brackets__SplitFamily___init__).up, b8⟩
  have d_closes : Def l.prog w K mg base "closes" ["text"] 1 (sp_closes K _) f9 _ := ⟨(ok_closes (P := l.prog) (w := w) (base := base) CA F9).up, b9, k9, PySem.W.mg_of X G a9⟩
  have d_Brackets__is_one : MDef l.prog w K mg base ["self", "thing"] 2 (sp_Brackets__is_one K _) f10 _ := ⟨(ok_Brackets__is_one (P := l.prog) (w := w) (base := base) CA F10 d_closes).up, b10⟩
  have d_Brackets__Family_refuse_other : MDef l.prog w K mg base ["self", "thing"] 3 (sp_Brackets__Family_refuse_other K _) f11 _ := ⟨(ok_Brackets__Family_refuse_other (P := l.prog) (w := w) (base := base) CA F11 d_Brackets__is_one).up, b11⟩
  have d_brackets_to_stairs : Def l.prog w K mg base "brackets_to_stairs" ["thing"] 7 (sp_brackets_to_stairs K _) f12 _ := ⟨(ok_brackets_to_stairs (P := l.prog) (w := w) (base := base) CA F12 d_Brackets____init__ d_Brackets__Family_refuse_other).up, b12, k12, PySem.W.mg_of X G a12⟩
  have d__law_whole : Def l.prog w K mg base "_law_whole" ["_law_found"] 1 (sp__law_whole K _) f13 _ := ⟨(ok__law_whole (P := l.prog) (w := w) (base := base) CA F13 m_isinstance m_int m_bool).up, b13, k13, PySem.W.mg_of X G a13⟩
  have d__law_numbers : Def l.prog w K mg base "_law_numbers" ["_law_found", "_law_due"] 2 (sp__law_numbers K _) f14 _ := ⟨(ok__law_numbers (P := l.prog) (w := w) (base := base) CA F14 d__law_whole m_isinstance m_list m_len m_range).up, b14, k14, PySem.W.mg_of X G a14⟩
  have d__law_text : Def l.prog w K mg base "_law_text" ["_law_found", "_law_due"] 1 (sp__law_text K _) f15 _ := ⟨(ok__law_text (P := l.prog) (w := w) (base := base) CA F15 m_isinstance m_str).up, b15, k15, PySem.W.mg_of X G a15⟩
  have d_Stairs__Family___init__ : MDef l.prog w K mg base ["self", "word", "least"] 1 (sp_Stairs__Family___init__ K _) f16 _ := ⟨(ok_Stairs__Family___init__ (P := l.prog) (w := w) (base := base) CA F16).up, b16⟩
  have d_Stairs__SplitFamily___init__ : MDef l.prog w K mg base ["self", "word"] 3 (sp_Stairs__SplitFamily___init__ K _) f17 _ := ⟨(ok_Stairs__SplitFamily___init__ (P := l.prog) (w := w) (base := base) CA F17 d_Stairs__Family___init__).up, b17⟩
  have d_Stairs____init__ : MDef l.prog w K mg base ["self"] 5 (sp_Stairs____init__ K _) f18 _ := ⟨(ok_Stairs____init__ (P := l.prog) (w := w) (base := base) CA F18 d_Stairs__SplitFamily___init__).up, b18⟩
  have d_Stairs__is_one : MDef l.prog w K mg base ["self", "thing"] 1 (sp_Stairs__is_one K _) f19 _ := ⟨(ok_Stairs__is_one (P := l.prog) (w := w) (base := base) CA F19 m_enumerate).up, b19⟩
  have d_Stairs__Family_refuse_other : MDef l.prog w K mg base ["self", "thing"] 2 (sp_Stairs__Family_refuse_other K _) f20 _ := ⟨(ok_Stairs__Family_refuse_other (P := l.prog) (w := w) (base := base) CA F20 d_Stairs__is_one).up, b20⟩
  have d_stairs_to_brackets : Def l.prog w K mg base "stairs_to_brackets" ["thing"] 7 (sp_stairs_to_brackets K _) f21 _ := ⟨(ok_stairs_to_brackets (P := l.prog) (w := w) (base := base) CA F21 d_Stairs____init__ d_Stairs__Family_refuse_other m_len).up, b21, k21, PySem.W.mg_of X G a21⟩
  have d__law_mate : Def l.prog w K mg base "_law_mate" ["_law_text_here", "_law_at"] 1 (sp__law_mate K _) f22 _ := ⟨(ok__law_mate (P := l.prog) (w := w) (base := base) CA F22 m_range m_len m_int).up, b22, k22, PySem.W.mg_of X G a22⟩
  have d__law_bows_of : Def l.prog w K mg base "_law_bows_of" ["_law_text_here"] 2 (sp__law_bows_of K _) f23 _ := ⟨(ok__law_bows_of (P := l.prog) (w := w) (base := base) CA F23 d__law_mate m_range m_len).up, b23, k23, PySem.W.mg_of X G a23⟩
  have d_brackets_to_bows : Def l.prog w K mg base "brackets_to_bows" ["thing"] 7 (sp_brackets_to_bows K _) f24 _ := ⟨(ok_brackets_to_bows (P := l.prog) (w := w) (base := base) CA F24 d_Brackets____init__ d_Brackets__Family_refuse_other m_enumerate m_sorted).up, b24, k24, PySem.W.mg_of X G a24⟩
  have d__law_pairs : Def l.prog w K mg base "_law_pairs" ["_law_found", "_law_due"] 2 (sp__law_pairs K _) f25 _ := ⟨(ok__law_pairs (P := l.prog) (w := w) (base := base) CA F25 d__law_whole m_isinstance m_list m_len m_range m_tuple).up, b25, k25, PySem.W.mg_of X G a25⟩
  have d_Bows__Family___init__ : MDef l.prog w K mg base ["self", "word", "least"] 1 (sp_Bows__Family___init__ K _) f26 _ := ⟨(ok_Bows__Family___init__ (P := l.prog) (w := w) (base := base) CA F26).up, b26⟩
  have d_Bows__SplitFamily___init__ : MDef l.prog w K mg base ["self", "word"] 3 (sp_Bows__SplitFamily___init__ K _) f27 _ := ⟨(ok_Bows__SplitFamily___init__ (P := l.prog) (w := w) (base := base) CA F27 d_Bows__Family___init__).up, b27⟩
  have d_Bows____init__ : MDef l.prog w K mg base ["self"] 5 (sp_Bows____init__ K _) f28 _ := ⟨(ok_Bows____init__ (P := l.prog) (w := w) (base := base) CA F28 d_Bows__SplitFamily___init__).up, b28⟩
  have d_each_once : Def l.prog w K mg base "each_once" ["numbers"] 1 (sp_each_once K _) f29 _ := ⟨(ok_each_once (P := l.prog) (w := w) (base := base) CA F29 m_sorted m_list m_range m_len).up, b29, k29, PySem.W.mg_of X G a29⟩
  have d_flat : Def l.prog w K mg base "flat" ["rows"] 1 (sp_flat K _) f30 _ := ⟨(ok_flat (P := l.prog) (w := w) (base := base) CA F30).up, b30, k30, PySem.W.mg_of X G a30⟩
  have d_any_cross : Def l.prog w K mg base "any_cross" ["pairs"] 1 (sp_any_cross K _) f31 _ := ⟨(ok_any_cross (P := l.prog) (w := w) (base := base) CA F31).up, b31, k31, PySem.W.mg_of X G a31⟩
  have d_Bows__is_one : MDef l.prog w K mg base ["self", "thing"] 2 (sp_Bows__is_one K _) f32 _ := ⟨(ok_Bows__is_one (P := l.prog) (w := w) (base := base) CA F32 d_each_once d_flat d_any_cross m_sorted m_all).up, b32⟩
  have d_Bows__Family_refuse_other : MDef l.prog w K mg base ["self", "thing"] 3 (sp_Bows__Family_refuse_other K _) f33 _ := ⟨(ok_Bows__Family_refuse_other (P := l.prog) (w := w) (base := base) CA F33 d_Bows__is_one).up, b33⟩
  have d_bows_to_brackets : Def l.prog w K mg base "bows_to_brackets" ["thing"] 7 (sp_bows_to_brackets K _) f34 _ := ⟨(ok_bows_to_brackets (P := l.prog) (w := w) (base := base) CA F34 d_Bows____init__ d_Bows__Family_refuse_other m_len).up, b34, k34, PySem.W.mg_of X G a34⟩
  have d__law_stairs_by : Def l.prog w K mg base "_law_stairs_by" ["_law_script", "_law_size", "_law_turn"] 3 (sp__law_stairs_by K _) f35 _ := ⟨(ok__law_stairs_by (P := l.prog) (w := w) (base := base) CA F35 d__law_draws m_enumerate).up, b35, k35, PySem.W.mg_of X G a35⟩
  have d__law_closes : Def l.prog w K mg base "_law_closes" ["_law_text_here"] 1 (sp__law_closes K _) f36 _ := ⟨(ok__law_closes (P := l.prog) (w := w) (base := base) CA F36).up, b36, k36, PySem.W.mg_of X G a36⟩
  exact ok_law (P := l.prog) (w := w) (base := base) CA F37 d__law_text_by d__law_cell_at d__law_stairs_of d_brackets_to_stairs d__law_numbers d__law_text d_stairs_to_brackets d__law_bows_of d_brackets_to_bows d__law_pairs d_bows_to_brackets d__law_stairs_by d__law_closes m_list m_isinstance m_str m_len
theorem walk {l : PySem.W.OpenLaw} {q : Program} {loose : List Str} {XP : (Str → Option Value) → Heap → Prop} {YP : World → Heap → Prop} {d : DefRec} {K : Params → PySem.W.Frag} (hn : l.most = some 63) (hdf : d.params.defaults = [])
    (hY : ∀ (w : World) (h : Heap), YP w h → (K w.params).In h)
    (F : ∀ (w : World) (mg : Str → Option Value) (fa : Addr) (h : Heap), (K w.params).In h → h.Ns mainGlobals mg → mg d.name = some (.ref fa) →
      ∃ fd : FuncData, (∀ (s : Shared) (u : Value), BindsTo s fd ⟨[u], []⟩ [("_law_script", u)]) ∧ ∀ base : Heap, (K w.params).In base → base.Ns mainGlobals mg → FnOk l.prog w (K w.params) mg base CX0 8 fa fd ["_law_script"] (spL (K w.params))) :
    PySem.W.WalkO q loose XP YP l.row.toRowW d [] (fun f vs => PySem.call f vs) :=
  L2.walk_of (n := 63) (k := 8) (x := "_law_script") (CX := fun _ => CX0) (sp := fun w => spL (K w.params)) hn (by decide) hdf ⟨rfl, by decide, by decide⟩ hY F (fun _ _ a ns hl _ hS => ⟨a, ns, rfl, hS, hl, fun _ => rfl⟩) fun _ _ _ _ _ z => z
end Ck
open L2
namespace Ck
open PySem PySem.W PySem.Calls PyProof.Rows
noncomputable def hB : List Stmt := behindTheImports PySem.Challenge.pw_countkin_k25_stairs_and_bows
noncomputable def hE : Env := { scope := PySem.Challenge.pw_countkin_k25_stairs_and_bows.main.scope, locals := mainNs, globals := mainNs, cells := [], code := (.ref 13), frame := some 14 }
noncomputable def hC : Code := .body hB hE
noncomputable def hTree (P : Params) : BT := (.node (boot_o_0 P) (.node (boot_o_1 P) (.node (boot_o_3 P) (.node (boot_o_7 P) .nil .nil) (.node ⟨(.type "tuple"), none, (.seq #[] 0), #[]⟩ .nil .nil)) (.node (boot_o_5 P) (.node (boot_o_9 P) .nil .nil) (.node ⟨(.type "code"), none, (.fields #[(.str "<module>" 182), (.str "<module>" 183), (.str "/claim/cut.py" 184), (.int 1 0), (.int 0 0), (.int 0 0), (.int 0 0), (.int 0 0), (.ref 11), (.bool false), (.int 181 0), (.ref 12), .none, .none, .none, .none, (.int 185 0), (.int 1 0), (.str "/claim/cut.py" 186)]), #[]⟩ .nil .nil))) (.node (boot_o_2 P) (.node (boot_o_4 P) (.node (boot_o_8 P) .nil .nil) (.node ⟨.none, none, (.fields #[]), #[]⟩ .nil .nil)) (.node (boot_o_6 P) (.node (boot_o_10 P) .nil .nil) (.node ⟨(.type "frame"), none, .plain, #[(some (.ref 13)), (some (.ref 3)), (some (.ref 3)), none, (some (.str "__main__" 164)), none, (some (.ref 0))]⟩ .nil .nil))))
noncomputable def hS (w : World) (os : OsState) : SharedT := ⟨hTree w.params, 15, ({} : Life), Array.mk [], ⟨0, 0, 0, 0⟩, 187, os⟩
noncomputable def hQ : Program := { PySem.Challenge.pw_countkin_k25_stairs_and_bows with main := { PySem.Challenge.pw_countkin_k25_stairs_and_bows.main with body := [top 41] } }
noncomputable def hL : List Str := (Str.ofString "_wall" :: Str.ofString "flat" :: Str.ofString "each_once" :: Str.ofString "any_cross" :: Str.ofString "GREATEST_SIZE" :: Str.ofString "by_rule" :: Str.ofString "KinError" :: Str.ofString "NoSize" :: Str.ofString "NoThing" :: Str.ofString "Family" :: Str.ofString "SplitFamily" :: Str.ofString "Bows" :: Str.ofString "closes" :: Str.ofString "Brackets" :: Str.ofString "Stairs" :: Str.ofString "brackets_to_stairs" :: Str.ofString "stairs_to_brackets" :: Str.ofString "brackets_to_bows" :: Str.ofString "bows_to_brackets" :: Str.ofString "_law_cell_at" :: Str.ofString "_law_whole" :: Str.ofString "_law_mix" :: Str.ofString "_law_closes" :: Str.ofString "_law_draws" :: Str.ofString "_law_text_by" :: Str.ofString "_law_stairs_by" :: Str.ofString "_law_numbers" :: Str.ofString "_law_pairs" :: Str.ofString "_law_mate" :: Str.ofString "_law_stairs_of" :: Str.ofString "_law_bows_of" :: Str.ofString "_law_text" :: [])
noncomputable def hK : Params → Frag := fun P => (nat_lit 2, ⟨.none, none, (.dict #[] 0), #[]⟩) :: (nat_lit 3, ⟨(.type "dict"), none, (.dict (List.toArray (⟨PyData.keyHash P "__name__", .str "__name__" 165, (.str "law_countkin_k25_stairs_and_bows" 743)⟩ :: ⟨PyData.keyHash P "__doc__", .str "__doc__" 166, .none⟩ :: ⟨PyData.keyHash P "__package__", .str "__package__" 167, .none⟩ :: ⟨PyData.keyHash P "__loader__", .str "__loader__" 168, (.builtin "__main__.__loader__#opaque")⟩ :: ⟨PyData.keyHash P "__spec__", .str "__spec__" 169, .none⟩ :: ⟨PyData.keyHash P "__annotations__", .str "__annotations__" 170, (.ref 6)⟩ :: ⟨PyData.keyHash P "__builtins__", .str "__builtins__" 171, (.ref 4)⟩ :: ⟨PyData.keyHash P "__file__", .str "__file__" 173, (.str "/claim/cut.py" 172)⟩ :: ⟨PyData.keyHash P "__cached__", .str "__cached__" 174, .none⟩ :: ⟨PyData.keyHash P "_wall", .str "_wall" 193, (.ref 21)⟩ :: ⟨PyData.keyHash P "flat", .str "flat" 204, (.ref 28)⟩ :: ⟨PyData.keyHash P "each_once", .str "each_once" 211, (.ref 35)⟩ :: ⟨PyData.keyHash P "any_cross", .str "any_cross" 222, (.ref 42)⟩ :: ⟨PyData.keyHash P "GREATEST_SIZE", .str "GREATEST_SIZE" 226, (.int 40 225)⟩ :: ⟨PyData.keyHash P "by_rule", .str "by_rule" 235, (.ref 49)⟩ :: ⟨PyData.keyHash P "KinError", .str "KinError" 255, (.ref 59)⟩ :: ⟨PyData.keyHash P "NoSize", .str "NoSize" 271, (.ref 72)⟩ :: ⟨PyData.keyHash P "NoThing", .str "NoThing" 287, (.ref 84)⟩ :: ⟨PyData.keyHash P "Family", .str "Family" 402, (.ref 173)⟩ :: ⟨PyData.keyHash P "SplitFamily", .str "SplitFamily" 494, (.ref 250)⟩ :: ⟨PyData.keyHash P "Bows", .str "Bows" 557, (.ref 302)⟩ :: ⟨PyData.keyHash P "closes", .str "closes" 568, (.ref 311)⟩ :: ⟨PyData.keyHash P "Brackets", .str "Brackets" 633, (.ref 363)⟩ :: ⟨PyData.keyHash P "Stairs", .str "Stairs" 699, (.ref 417)⟩ :: ⟨PyData.keyHash P "brackets_to_stairs", .str "brackets_to_stairs" 711, (.ref 426)⟩ :: ⟨PyData.keyHash P "stairs_to_brackets", .str "stairs_to_brackets" 721, (.ref 433)⟩ :: ⟨PyData.keyHash P "brackets_to_bows", .str "brackets_to_bows" 732, (.ref 440)⟩ :: ⟨PyData.keyHash P "bows_to_brackets", .str "bows_to_brackets" 742, (.ref 447)⟩ :: ⟨PyData.keyHash P "_law_cell_at", .str "_law_cell_at" 752, (.ref 454)⟩ :: ⟨PyData.keyHash P "_law_whole", .str "_law_whole" 759, (.ref 461)⟩ :: ⟨PyData.keyHash P "_law_mix", .str "_law_mix" 768, (.ref 468)⟩ :: ⟨PyData.keyHash P "_law_closes", .str "_law_closes" 777, (.ref 475)⟩ :: ⟨PyData.keyHash P "_law_draws", .str "_law_draws" 783, (.ref 480)⟩ :: ⟨PyData.keyHash P "_law_text_by", .str "_law_text_by" 799, (.ref 487)⟩ :: ⟨PyData.keyHash P "_law_stairs_by", .str "_law_stairs_by" 812, (.ref 494)⟩ :: ⟨PyData.keyHash P "_law_numbers", .str "_law_numbers" 821, (.ref 501)⟩ :: ⟨PyData.keyHash P "_law_pairs", .str "_law_pairs" 830, (.ref 508)⟩ :: ⟨PyData.keyHash P "_law_mate", .str "_law_mate" 840, (.ref 515)⟩ :: ⟨PyData.keyHash P "_law_stairs_of", .str "_law_stairs_of" 846, (.ref 520)⟩ :: ⟨PyData.keyHash P "_law_bows_of", .str "_law_bows_of" 852, (.ref 525)⟩ :: ⟨PyData.keyHash P "_law_text", .str "_law_text" 860, (.ref 532)⟩ :: ⟨PyData.keyHash P "law", .str "law" 873, (.ref 539)⟩ :: [])) 42), #[]⟩) :: (nat_lit 15, ⟨(.type "tuple"), none, (.seq #[] 0), #[]⟩) :: (nat_lit 17, ⟨(.type "tuple"), none, (.seq #[(.str "k" 190)] 0), #[]⟩) :: (nat_lit 18, ⟨(.type "tuple"), none, (.seq #[] 0), #[]⟩) :: (nat_lit 20, ⟨(.type "code"), none, (.fields #[(.str "_wall" 187), (.str "_wall" 188), (.str "/claim/cut.py" 189), (.int 1 0), (.int 1 0), (.int 0 0), (.int 0 0), (.int 3 0), (.ref 15), (.bool true), (.int 181 0), (.ref 16), .none, (.ref 17), (.ref 18), (.ref 19), (.int 191 0), (.int 1 0), (.str "/claim/cut.py" 192)]), #[]⟩) :: (nat_lit 21, ⟨(.type "function"), none, (.func (fnOf "_wall" "_wall" (defArgs (top 0)) (defBody (top 0)) (defScope (top 0)) .none .none .none (.str "__main__" 164) none (.ref 20) .none)), #[]⟩) :: (nat_lit 22, ⟨(.type "tuple"), none, (.seq #[] 0), #[]⟩) :: (nat_lit 24, ⟨(.type "tuple"), none, (.seq #[(.str "rows" 199), (.str "found" 200), (.str "row" 201)] 0), #[]⟩) :: (nat_lit 25, ⟨(.type "tuple"), none, (.seq #[] 0), #[]⟩) :: (nat_lit 27, ⟨(.type "code"), none, (.fields #[(.str "flat" 196), (.str "flat" 197), (.str "/claim/cut.py" 198), (.int 5 0), (.int 1 0), (.int 0 0), (.int 0 0), (.int 3 0), (.ref 22), (.bool true), (.int 181 0), (.ref 23), .none, (.ref 24), (.ref 25), (.ref 26), (.int 202 0), (.int 5 0), (.str "/claim/cut.py" 203)]), #[]⟩) :: (nat_lit 28, ⟨(.type "function"), none, (.func (fnOf "flat" "flat" (defArgs (top 2)) (defBody (top 2)) (defScope (top 2)) .none .none .none (.str "countkin.common" 194) none (.ref 27) .none)), #[]⟩) :: (nat_lit 29, ⟨(.type "tuple"), none, (.seq #[] 0), #[]⟩) :: (nat_lit 31, ⟨(.type "tuple"), none, (.seq #[(.str "numbers" 208)] 0), #[]⟩) :: (nat_lit 32, ⟨(.type "tuple"), none, (.seq #[] 0), #[]⟩) :: (nat_lit 34, ⟨(.type "code"), none, (.fields #[(.str "each_once" 205), (.str "each_once" 206), (.str "/claim/cut.py" 207), (.int 10 0), (.int 1 0), (.int 0 0), (.int 0 0), (.int 3 0), (.ref 29), (.bool true), (.int 181 0), (.ref 30), .none, (.ref 31), (.ref 32), (.ref 33), (.int 209 0), (.int 10 0), (.str "/claim/cut.py" 210)]), #[]⟩) :: (nat_lit 35, ⟨(.type "function"), none, (.func (fnOf "each_once" "each_once" (defArgs (top 3)) (defBody (top 3)) (defScope (top 3)) .none .none .none (.str "countkin.common" 194) none (.ref 34) .none)), #[]⟩) :: (nat_lit 36, ⟨(.type "tuple"), none, (.seq #[] 0), #[]⟩) :: (nat_lit 38, ⟨(.type "tuple"), none, (.seq #[(.str "pairs" 215), (.str "a" 216), (.str "b" 217), (.str "c" 218), (.str "d" 219)] 0), #[]⟩) :: (nat_lit 39, ⟨(.type "tuple"), none, (.seq #[] 0), #[]⟩) :: (nat_lit 41, ⟨(.type "code"), none, (.fields #[(.str "any_cross" 212), (.str "any_cross" 213), (.str "/claim/cut.py" 214), (.int 12 0), (.int 1 0), (.int 0 0), (.int 0 0), (.int 3 0), (.ref 36), (.bool true), (.int 181 0), (.ref 37), .none, (.ref 38), (.ref 39), (.ref 40), (.int 220 0), (.int 12 0), (.str "/claim/cut.py" 221)]), #[]⟩) :: (nat_lit 42, ⟨(.type "function"), none, (.func (fnOf "any_cross" "any_cross" (defArgs (top 4)) (defBody (top 4)) (defScope (top 4)) .none .none .none (.str "countkin.common" 194) none (.ref 41) .none)), #[]⟩) :: (nat_lit 43, ⟨(.type "tuple"), none, (.seq #[] 0), #[]⟩) :: (nat_lit 45, ⟨(.type "tuple"), none, (.seq #[(.str "size" 230), (.str "share" 231), (.str "k" 232)] 0), #[]⟩) :: (nat_lit 46, ⟨(.type "tuple"), none, (.seq #[] 0), #[]⟩) :: (nat_lit 48, ⟨(.type "code"), none, (.fields #[(.str "by_rule" 227), (.str "by_rule" 228), (.str "/claim/cut.py" 229), (.int 20 0), (.int 1 0), (.int 0 0), (.int 0 0), (.int 3 0), (.ref 43), (.bool true), (.int 181 0), (.ref 44), .none, (.ref 45), (.ref 46), (.ref 47), (.int 233 0), (.int 20 0), (.str "/claim/cut.py" 234)]), #[]⟩) :: (nat_lit 49, ⟨(.type "function"), none, (.func (fnOf "by_rule" "by_rule" (defArgs (top 7)) (defBody (top 7)) (defScope (top 7)) .none .none .none (.str "countkin.counts" 223) none (.ref 48) .none)), #[]⟩) :: (nat_lit 50, ⟨(.type "tuple"), none, (.seq #[(.type "ValueError")] 0), #[]⟩) :: (nat_lit 57, ⟨(.type "tuple"), none, (.seq #[] 0), #[]⟩) :: (nat_lit 58, ⟨(.type "dict"), none, (.dict #[⟨PyData.keyHash P "__module__", .str "__module__" 245, (.str "countkin.errors" 236)⟩, ⟨PyData.keyHash P "__firstlineno__", .str "__firstlineno__" 249, (.int 26 248)⟩, ⟨PyData.keyHash P "__static_attributes__", .str "__static_attributes__" 250, (.ref 57)⟩, ⟨PyData.keyHash P "__weakref__", .str "__weakref__" 252, (.ref 60)⟩, ⟨PyData.keyHash P "__doc__", .str "__doc__" 253, .none⟩] 3), #[]⟩) :: (nat_lit 59, ⟨(.type "type"), none, (.cls ⟨"KinError", [(.type "ValueError")], [(.ref 59), (.type "ValueError"), (.type "Exception"), (.type "BaseException"), (.type "object")], 58, "KinError", true, [], [(.ref 72), (.ref 84)], false, none, false⟩), #[(some (.ref 50)), none, (some (.str "KinError" 238)), (some (.str "KinError" 246)), (some (.builtin "ValueError.__new__")), (some (.bool true))]⟩) :: (nat_lit 60, ⟨(.type "getset_descriptor"), none, (.fields #[(.str "__weakref__" 251), (.ref 59), (.builtin "ExceptionGroup.__weakref__"), .none]), #[]⟩) :: (nat_lit 63, ⟨(.type "tuple"), none, (.seq #[(.ref 59)] 0), #[]⟩) :: (nat_lit 70, ⟨(.type "tuple"), none, (.seq #[] 0), #[]⟩) :: (nat_lit 71, ⟨(.type "dict"), none, (.dict #[⟨PyData.keyHash P "__module__", .str "__module__" 263, (.str "countkin.errors" 236)⟩, ⟨PyData.keyHash P "__firstlineno__", .str "__firstlineno__" 267, (.int 28 266)⟩, ⟨PyData.keyHash P "__static_attributes__", .str "__static_attributes__" 268, (.ref 70)⟩, ⟨PyData.keyHash P "__doc__", .str "__doc__" 269, .none⟩] 2), #[]⟩) :: (nat_lit 72, ⟨(.type "type"), none, (.cls ⟨"NoSize", [(.ref 59)], [(.ref 72), (.ref 59), (.type "ValueError"), (.type "Exception"), (.type "BaseException"), (.type "object")], 71, "NoSize", true, [], [], false, none, false⟩), #[(some (.ref 63)), none, (some (.str "NoSize" 256)), (some (.str "NoSize" 264)), (some (.builtin "ValueError.__new__")), (some (.bool true))]⟩) :: (nat_lit 75, ⟨(.type "tuple"), none, (.seq #[(.ref 59)] 0), #[]⟩) :: (nat_lit 82, ⟨(.type "tuple"), none, (.seq #[] 0), #[]⟩) :: (nat_lit 83, ⟨(.type "dict"), none, (.dict #[⟨PyData.keyHash P "__module__", .str "__module__" 279, (.str "countkin.errors" 236)⟩, ⟨PyData.keyHash P "__firstlineno__", .str "__firstlineno__" 283, (.int 30 282)⟩, ⟨PyData.keyHash P "__static_attributes__", .str "__static_attributes__" 284, (.ref 82)⟩, ⟨PyData.keyHash P "__doc__", .str "__doc__" 285, .none⟩] 2), #[]⟩) :: (nat_lit 84, ⟨(.type "type"), none, (.cls ⟨"NoThing", [(.ref 59)], [(.ref 84), (.ref 59), (.type "ValueError"), (.type "Exception"), (.type "BaseException"), (.type "object")], 83, "NoThing", true, [], [], false, none, false⟩), #[(some (.ref 75)), none, (some (.str "NoThing" 272)), (some (.str "NoThing" 280)), (some (.builtin "ValueError.__new__")), (some (.bool true))]⟩) :: (nat_lit 94, ⟨(.type "tuple"), none, (.seq #[] 0), #[]⟩) :: (nat_lit 96, ⟨(.type "tuple"), none, (.seq #[(.str "self" 305), (.str "word" 306), (.str "least" 307)] 0), #[]⟩) :: (nat_lit 97, ⟨(.type "tuple"), none, (.seq #[] 0), #[]⟩) :: (nat_lit 99, ⟨(.type "code"), none, (.fields #[(.str "__init__" 302), (.str "Family.__init__" 303), (.str "/claim/cut.py" 304), (.int 35 0), (.int 3 0), (.int 0 0), (.int 0 0), (.int 3 0), (.ref 94), (.bool true), (.int 181 0), (.ref 95), .none, (.ref 96), (.ref 97), (.ref 98), (.int 308 0), (.int 35 0), (.str "/claim/cut.py" 309)]), #[]⟩) :: (nat_lit 100, ⟨(.type "function"), none, (.func (fnOf "__init__" "Family.__init__" (defArgs (inClass (top 13) 0)) (defBody (inClass (top 13) 0)) (defScope (inClass (top 13) 0)) .none .none .none (.str "countkin.kin" 288) none (.ref 99) .none)), #[]⟩) :: (nat_lit 101, ⟨(.type "tuple"), none, (.seq #[] 0), #[]⟩) :: (nat_lit 103, ⟨(.type "tuple"), none, (.seq #[(.str "self" 314), (.str "thing" 315)] 0), #[]⟩) :: (nat_lit 104, ⟨(.type "tuple"), none, (.seq #[] 0), #[]⟩) :: (nat_lit 106, ⟨(.type "code"), none, (.fields #[(.str "size_of" 311), (.str "Family.size_of" 312), (.str "/claim/cut.py" 313), (.int 39 0), (.int 2 0), (.int 0 0), (.int 0 0), (.int 3 0), (.ref 101), (.bool true), (.int 181 0), (.ref 102), .none, (.ref 103), (.ref 104), (.ref 105), (.int 316 0), (.int 39 0), (.str "/claim/cut.py" 317)]), #[]⟩) :: (nat_lit 107, ⟨(.type "function"), none, (.func (fnOf "size_of" "Family.size_of" (defArgs (inClass (top 13) 1)) (defBody (inClass (top 13) 1)) (defScope (inClass (top 13) 1)) .none .none .none (.str "countkin.kin" 288) none (.ref 106) .none)), #[]⟩) :: (nat_lit 108, ⟨(.type "tuple"), none, (.seq #[] 0), #[]⟩) :: (nat_lit 110, ⟨(.type "tuple"), none, (.seq #[(.str "self" 322), (.str "thing" 323)] 0), #[]⟩) :: (nat_lit 111, ⟨(.type "tuple"), none, (.seq #[] 0), #[]⟩) :: (nat_lit 113, ⟨(.type "code"), none, (.fields #[(.str "is_one" 319), (.str "Family.is_one" 320), (.str "/claim/cut.py" 321), (.int 42 0), (.int 2 0), (.int 0 0), (.int 0 0), (.int 3 0), (.ref 108), (.bool true), (.int 181 0), (.ref 109), .none, (.ref 110), (.ref 111), (.ref 112), (.int 324 0), (.int 42 0), (.str "/claim/cut.py" 325)]), #[]⟩) :: (nat_lit 114, ⟨(.type "function"), none, (.func (fnOf "is_one" "Family.is_one" (defArgs (inClass (top 13) 2)) (defBody (inClass (top 13) 2)) (defScope (inClass (top 13) 2)) .none .none .none (.str "countkin.kin" 288) none (.ref 113) .none)), #[]⟩) :: (nat_lit 115, ⟨(.type "tuple"), none, (.seq #[] 0), #[]⟩) :: (nat_lit 117, ⟨(.type "tuple"), none, (.seq #[(.str "self" 330), (.str "size" 331)] 0), #[]⟩) :: (nat_lit 118, ⟨(.type "tuple"), none, (.seq #[] 0), #[]⟩) :: (nat_lit 120, ⟨(.type "code"), none, (.fields #[(.str "unchecked_many" 327), (.str "Family.unchecked_many" 328), (.str "/claim/cut.py" 329), (.int 45 0), (.int 2 0), (.int 0 0), (.int 0 0), (.int 3 0), (.ref 115), (.bool true), (.int 181 0), (.ref 116), .none, (.ref 117), (.ref 118), (.ref 119), (.int 332 0), (.int 45 0), (.str "/claim/cut.py" 333)]), #[]⟩) :: (nat_lit 121, ⟨(.type "function"), none, (.func (fnOf "unchecked_many" "Family.unchecked_many" (defArgs (inClass (top 13) 3)) (defBody (inClass (top 13) 3)) (defScope (inClass (top 13) 3)) .none .none .none (.str "countkin.kin" 288) none (.ref 120) .none)), #[]⟩) :: (nat_lit 122, ⟨(.type "tuple"), none, (.seq #[] 0), #[]⟩) :: (nat_lit 124, ⟨(.type "tuple"), none, (.seq #[(.str "self" 338), (.str "thing" 339)] 0), #[]⟩) :: (nat_lit 125, ⟨(.type "tuple"), none, (.seq #[] 0), #[]⟩) :: (nat_lit 127, ⟨(.type "code"), none, (.fields #[(.str "unchecked_number" 335), (.str "Family.unchecked_number" 336), (.str "/claim/cut.py" 337), (.int 48 0), (.int 2 0), (.int 0 0), (.int 0 0), (.int 3 0), (.ref 122), (.bool true), (.int 181 0), (.ref 123), .none, (.ref 124), (.ref 125), (.ref 126), (.int 340 0), (.int 48 0), (.str "/claim/cut.py" 341)]), #[]⟩) :: (nat_lit 128, ⟨(.type "function"), none, (.func (fnOf "unchecked_number" "Family.unchecked_number" (defArgs (inClass (top 13) 4)) (defBody (inClass (top 13) 4)) (defScope (inClass (top 13) 4)) .none .none .none (.str "countkin.kin" 288) none (.ref 127) .none)), #[]⟩) :: (nat_lit 129, ⟨(.type "tuple"), none, (.seq #[] 0), #[]⟩) :: (nat_lit 131, ⟨(.type "tuple"), none, (.seq #[(.str "self" 346), (.str "size" 347), (.str "number" 348)] 0), #[]⟩) :: (nat_lit 132, ⟨(.type "tuple"), none, (.seq #[] 0), #[]⟩) :: (nat_lit 134, ⟨(.type "code"), none, (.fields #[(.str "unchecked_thing" 343), (.str "Family.unchecked_thing" 344), (.str "/claim/cut.py" 345), (.int 51 0), (.int 3 0), (.int 0 0), (.int 0 0), (.int 3 0), (.ref 129), (.bool true), (.int 181 0), (.ref 130), .none, (.ref 131), (.ref 132), (.ref 133), (.int 349 0), (.int 51 0), (.str "/claim/cut.py" 350)]), #[]⟩) :: (nat_lit 135, ⟨(.type "function"), none, (.func (fnOf "unchecked_thing" "Family.unchecked_thing" (defArgs (inClass (top 13) 5)) (defBody (inClass (top 13) 5)) (defScope (inClass (top 13) 5)) .none .none .none (.str "countkin.kin" 288) none (.ref 134) .none)), #[]⟩) :: (nat_lit 136, ⟨(.type "tuple"), none, (.seq #[] 0), #[]⟩) :: (nat_lit 138, ⟨(.type "tuple"), none, (.seq #[(.str "self" 355), (.str "size" 356)] 0), #[]⟩) :: (nat_lit 139, ⟨(.type "tuple"), none, (.seq #[] 0), #[]⟩) :: (nat_lit 141, ⟨(.type "code"), none, (.fields #[(.str "many" 352), (.str "Family.many" 353), (.str "/claim/cut.py" 354), (.int 54 0), (.int 2 0), (.int 0 0), (.int 0 0), (.int 3 0), (.ref 136), (.bool true), (.int 181 0), (.ref 137), .none, (.ref 138), (.ref 139), (.ref 140), (.int 357 0), (.int 54 0), (.str "/claim/cut.py" 358)]), #[]⟩) :: (nat_lit 142, ⟨(.type "function"), none, (.func (fnOf "many" "Family.many" (defArgs (inClass (top 13) 6)) (defBody (inClass (top 13) 6)) (defScope (inClass (top 13) 6)) .none .none .none (.str "countkin.kin" 288) none (.ref 141) .none)), #[]⟩) :: (nat_lit 143, ⟨(.type "tuple"), none, (.seq #[] 0), #[]⟩) :: (nat_lit 145, ⟨(.type "tuple"), none, (.seq #[(.str "self" 363), (.str "thing" 364)] 0), #[]⟩) :: (nat_lit 146, ⟨(.type "tuple"), none, (.seq #[] 0), #[]⟩) :: (nat_lit 148, ⟨(.type "code"), none, (.fields #[(.str "refuse_other" 360), (.str "Family.refuse_other" 361), (.str "/claim/cut.py" 362), (.int 59 0), (.int 2 0), (.int 0 0), (.int 0 0), (.int 3 0), (.ref 143), (.bool true), (.int 181 0), (.ref 144), .none, (.ref 145), (.ref 146), (.ref 147), (.int 365 0), (.int 59 0), (.str "/claim/cut.py" 366)]), #[]⟩) :: (nat_lit 149, ⟨(.type "function"), none, (.func (fnOf "refuse_other" "Family.refuse_other" (defArgs (inClass (top 13) 7)) (defBody (inClass (top 13) 7)) (defScope (inClass (top 13) 7)) .none .none .none (.str "countkin.kin" 288) none (.ref 148) .none)), #[]⟩) :: (nat_lit 150, ⟨(.type "tuple"), none, (.seq #[] 0), #[]⟩) :: (nat_lit 152, ⟨(.type "tuple"), none, (.seq #[(.str "self" 371), (.str "thing" 372)] 0), #[]⟩) :: (nat_lit 153, ⟨(.type "tuple"), none, (.seq #[] 0), #[]⟩) :: (nat_lit 155, ⟨(.type "code"), none, (.fields #[(.str "number_of" 368), (.str "Family.number_of" 369), (.str "/claim/cut.py" 370), (.int 63 0), (.int 2 0), (.int 0 0), (.int 0 0), (.int 3 0), (.ref 150), (.bool true), (.int 181 0), (.ref 151), .none, (.ref 152), (.ref 153), (.ref 154), (.int 373 0), (.int 63 0), (.str "/claim/cut.py" 374)]), #[]⟩) :: (nat_lit 156, ⟨(.type "function"), none, (.func (fnOf "number_of" "Family.number_of" (defArgs (inClass (top 13) 8)) (defBody (inClass (top 13) 8)) (defScope (inClass (top 13) 8)) .none .none .none (.str "countkin.kin" 288) none (.ref 155) .none)), #[]⟩) :: (nat_lit 157, ⟨(.type "tuple"), none, (.seq #[] 0), #[]⟩) :: (nat_lit 159, ⟨(.type "tuple"), none, (.seq #[(.str "self" 379), (.str "size" 380), (.str "number" 381)] 0), #[]⟩) :: (nat_lit 160, ⟨(.type "tuple"), none, (.seq #[] 0), #[]⟩) :: (nat_lit 162, ⟨(.type "code"), none, (.fields #[(.str "thing_of" 376), (.str "Family.thing_of" 377), (.str "/claim/cut.py" 378), (.int 66 0), (.int 3 0), (.int 0 0), (.int 0 0), (.int 3 0), (.ref 157), (.bool true), (.int 181 0), (.ref 158), .none, (.ref 159), (.ref 160), (.ref 161), (.int 382 0), (.int 66 0), (.str "/claim/cut.py" 383)]), #[]⟩) :: (nat_lit 163, ⟨(.type "function"), none, (.func (fnOf "thing_of" "Family.thing_of" (defArgs (inClass (top 13) 9)) (defBody (inClass (top 13) 9)) (defScope (inClass (top 13) 9)) .none .none .none (.str "countkin.kin" 288) none (.ref 162) .none)), #[]⟩) :: (nat_lit 164, ⟨(.type "tuple"), none, (.seq #[] 0), #[]⟩) :: (nat_lit 166, ⟨(.type "tuple"), none, (.seq #[(.str "self" 388), (.str "thing" 389)] 0), #[]⟩) :: (nat_lit 167, ⟨(.type "tuple"), none, (.seq #[] 0), #[]⟩) :: (nat_lit 169, ⟨(.type "code"), none, (.fields #[(.str "next_of" 385), (.str "Family.next_of" 386), (.str "/claim/cut.py" 387), (.int 69 0), (.int 2 0), (.int 0 0), (.int 0 0), (.int 3 0), (.ref 164), (.bool true), (.int 181 0), (.ref 165), .none, (.ref 166), (.ref 167), (.ref 168), (.int 390 0), (.int 69 0), (.str "/claim/cut.py" 391)]), #[]⟩) :: (nat_lit 170, ⟨(.type "function"), none, (.func (fnOf "next_of" "Family.next_of" (defArgs (inClass (top 13) 10)) (defBody (inClass (top 13) 10)) (defScope (inClass (top 13) 10)) .none .none .none (.str "countkin.kin" 288) none (.ref 169) .none)), #[]⟩) :: (nat_lit 171, ⟨(.type "tuple"), none, (.seq #[(.str "least" 393), (.str "word" 394)] 0), #[]⟩) :: (nat_lit 172, ⟨(.type "dict"), none, (.dict #[⟨PyData.keyHash P "__module__", .str "__module__" 297, (.str "countkin.kin" 288)⟩, ⟨PyData.keyHash P "__firstlineno__", .str "__firstlineno__" 301, (.int 33 300)⟩, ⟨PyData.keyHash P "__init__", .str "__init__" 310, (.ref 100)⟩, ⟨PyData.keyHash P "size_of", .str "size_of" 318, (.ref 107)⟩, ⟨PyData.keyHash P "is_one", .str "is_one" 326, (.ref 114)⟩, ⟨PyData.keyHash P "unchecked_many", .str "unchecked_many" 334, (.ref 121)⟩, ⟨PyData.keyHash P "unchecked_number", .str "unchecked_number" 342, (.ref 128)⟩, ⟨PyData.keyHash P "unchecked_thing", .str "unchecked_thing" 351, (.ref 135)⟩, ⟨PyData.keyHash P "many", .str "many" 359, (.ref 142)⟩, ⟨PyData.keyHash P "refuse_other", .str "refuse_other" 367, (.ref 149)⟩, ⟨PyData.keyHash P "number_of", .str "number_of" 375, (.ref 156)⟩, ⟨PyData.keyHash P "thing_of", .str "thing_of" 384, (.ref 163)⟩, ⟨PyData.keyHash P "next_of", .str "next_of" 392, (.ref 170)⟩, ⟨PyData.keyHash P "__static_attributes__", .str "__static_attributes__" 395, (.ref 171)⟩, ⟨PyData.keyHash P "__dict__", .str "__dict__" 397, (.ref 174)⟩, ⟨PyData.keyHash P "__weakref__", .str "__weakref__" 399, (.ref 175)⟩, ⟨PyData.keyHash P "__doc__", .str "__doc__" 400, .none⟩] 4), #[]⟩) :: (nat_lit 173, ⟨(.type "type"), none, (.cls ⟨"Family", [(.type "object")], [(.ref 173), (.type "object")], 172, "Family", true, [], [(.ref 250)], false, none, false⟩), #[none, none, (some (.str "Family" 290)), (some (.str "Family" 298)), (some (.builtin "object.__new__")), (some (.bool true))]⟩) :: (nat_lit 174, ⟨(.type "getset_descriptor"), none, (.fields #[(.str "__dict__" 396), (.ref 173), (.builtin "function.__dict__"), (.builtin "function.__dict__#set")]), #[]⟩) :: (nat_lit 175, ⟨(.type "getset_descriptor"), none, (.fields #[(.str "__weakref__" 398), (.ref 173), (.builtin "ExceptionGroup.__weakref__"), .none]), #[]⟩) :: (nat_lit 178, ⟨(.type "tuple"), none, (.seq #[(.ref 173)] 0), #[]⟩) :: (nat_lit 185, ⟨(.type "tuple"), none, (.seq #[] 0), #[]⟩) :: (nat_lit 187, ⟨(.type "tuple"), none, (.seq #[(.str "self" 418), (.str "word" 419)] 0), #[]⟩) :: (nat_lit 188, ⟨(.type "tuple"), none, (.seq #[] 0), #[]⟩) :: (nat_lit 190, ⟨(.type "code"), none, (.fields #[(.str "__init__" 415), (.str "SplitFamily.__init__" 416), (.str "/claim/cut.py" 417), (.int 73 0), (.int 2 0), (.int 0 0), (.int 0 0), (.int 3 0), (.ref 185), (.bool true), (.int 181 0), (.ref 186), .none, (.ref 187), (.ref 188), (.ref 189), (.int 420 0), (.int 73 0), (.str "/claim/cut.py" 421)]), #[]⟩) :: (nat_lit 191, ⟨(.type "function"), none, (.func (fnOf "__init__" "SplitFamily.__init__" (defArgs (inClass (top 14) 0)) (defBody (inClass (top 14) 0)) (defScope (inClass (top 14) 0)) .none .none .none (.str "countkin.kin" 288) none (.ref 190) .none)), #[]⟩) :: (nat_lit 192, ⟨(.type "tuple"), none, (.seq #[] 0), #[]⟩) :: (nat_lit 194, ⟨(.type "tuple"), none, (.seq #[(.str "self" 426)] 0), #[]⟩) :: (nat_lit 195, ⟨(.type "tuple"), none, (.seq #[] 0), #[]⟩) :: (nat_lit 197, ⟨(.type "code"), none, (.fields #[(.str "bare" 423), (.str "SplitFamily.bare" 424), (.str "/claim/cut.py" 425), (.int 76 0), (.int 1 0), (.int 0 0), (.int 0 0), (.int 3 0), (.ref 192), (.bool true), (.int 181 0), (.ref 193), .none, (.ref 194), (.ref 195), (.ref 196), (.int 427 0), (.int 76 0), (.str "/claim/cut.py" 428)]), #[]⟩) :: (nat_lit 198, ⟨(.type "function"), none, (.func (fnOf "bare" "SplitFamily.bare" (defArgs (inClass (top 14) 1)) (defBody (inClass (top 14) 1)) (defScope (inClass (top 14) 1)) .none .none .none (.str "countkin.kin" 288) none (.ref 197) .none)), #[]⟩) :: (nat_lit 199, ⟨(.type "tuple"), none, (.seq #[] 0), #[]⟩) :: (nat_lit 201, ⟨(.type "tuple"), none, (.seq #[(.str "self" 433), (.str "thing" 434)] 0), #[]⟩) :: (nat_lit 202, ⟨(.type "tuple"), none, (.seq #[] 0), #[]⟩) :: (nat_lit 204, ⟨(.type "code"), none, (.fields #[(.str "parted" 430), (.str "SplitFamily.parted" 431), (.str "/claim/cut.py" 432), (.int 79 0), (.int 2 0), (.int 0 0), (.int 0 0), (.int 3 0), (.ref 199), (.bool true), (.int 181 0), (.ref 200), .none, (.ref 201), (.ref 202), (.ref 203), (.int 435 0), (.int 79 0), (.str "/claim/cut.py" 436)]), #[]⟩) :: (nat_lit 205, ⟨(.type "function"), none, (.func (fnOf "parted" "SplitFamily.parted" (defArgs (inClass (top 14) 2)) (defBody (inClass (top 14) 2)) (defScope (inClass (top 14) 2)) .none .none .none (.str "countkin.kin" 288) none (.ref 204) .none)), #[]⟩) :: (nat_lit 206, ⟨(.type "tuple"), none, (.seq #[] 0), #[]⟩) :: (nat_lit 208, ⟨(.type "tuple"), none, (.seq #[(.str "self" 441), (.str "left" 442), (.str "right" 443)] 0), #[]⟩) :: (nat_lit 209, ⟨(.type "tuple"), none, (.seq #[] 0), #[]⟩) :: (nat_lit 211, ⟨(.type "code"), none, (.fields #[(.str "joined" 438), (.str "SplitFamily.joined" 439), (.str "/claim/cut.py" 440), (.int 82 0), (.int 3 0), (.int 0 0), (.int 0 0), (.int 3 0), (.ref 206), (.bool true), (.int 181 0), (.ref 207), .none, (.ref 208), (.ref 209), (.ref 210), (.int 444 0), (.int 82 0), (.str "/claim/cut.py" 445)]), #[]⟩) :: (nat_lit 212, ⟨(.type "function"), none, (.func (fnOf "joined" "SplitFamily.joined" (defArgs (inClass (top 14) 3)) (defBody (inClass (top 14) 3)) (defScope (inClass (top 14) 3)) .none .none .none (.str "countkin.kin" 288) none (.ref 211) .none)), #[]⟩) :: (nat_lit 213, ⟨(.type "tuple"), none, (.seq #[] 0), #[]⟩) :: (nat_lit 215, ⟨(.type "tuple"), none, (.seq #[(.str "self" 450), (.str "size" 451)] 0), #[]⟩) :: (nat_lit 216, ⟨(.type "tuple"), none, (.seq #[] 0), #[]⟩) :: (nat_lit 218, ⟨(.type "code"), none, (.fields #[(.str "unchecked_many" 447), (.str "SplitFamily.unchecked_many" 448), (.str "/claim/cut.py" 449), (.int 85 0), (.int 2 0), (.int 0 0), (.int 0 0), (.int 3 0), (.ref 213), (.bool true), (.int 181 0), (.ref 214), .none, (.ref 215), (.ref 216), (.ref 217), (.int 452 0), (.int 85 0), (.str "/claim/cut.py" 453)]), #[]⟩) :: (nat_lit 219, ⟨(.type "function"), none, (.func (fnOf "unchecked_many" "SplitFamily.unchecked_many" (defArgs (inClass (top 14) 4)) (defBody (inClass (top 14) 4)) (defScope (inClass (top 14) 4)) .none .none .none (.str "countkin.kin" 288) none (.ref 218) .none)), #[]⟩) :: (nat_lit 220, ⟨(.type "tuple"), none, (.seq #[] 0), #[]⟩) :: (nat_lit 222, ⟨(.type "tuple"), none, (.seq #[(.str "self" 458), (.str "thing" 459)] 0), #[]⟩) :: (nat_lit 223, ⟨(.type "tuple"), none, (.seq #[] 0), #[]⟩) :: (nat_lit 225, ⟨(.type "code"), none, (.fields #[(.str "unchecked_number" 455), (.str "SplitFamily.unchecked_number" 456), (.str "/claim/cut.py" 457), (.int 88 0), (.int 2 0), (.int 0 0), (.int 0 0), (.int 3 0), (.ref 220), (.bool true), (.int 181 0), (.ref 221), .none, (.ref 222), (.ref 223), (.ref 224), (.int 460 0), (.int 88 0), (.str "/claim/cut.py" 461)]), #[]⟩) :: (nat_lit 226, ⟨(.type "function"), none, (.func (fnOf "unchecked_number" "SplitFamily.unchecked_number" (defArgs (inClass (top 14) 5)) (defBody (inClass (top 14) 5)) (defScope (inClass (top 14) 5)) .none .none .none (.str "countkin.kin" 288) none (.ref 225) .none)), #[]⟩) :: (nat_lit 227, ⟨(.type "tuple"), none, (.seq #[] 0), #[]⟩) :: (nat_lit 229, ⟨(.type "tuple"), none, (.seq #[(.str "self" 466), (.str "size" 467), (.str "number" 468)] 0), #[]⟩) :: (nat_lit 230, ⟨(.type "tuple"), none, (.seq #[] 0), #[]⟩) :: (nat_lit 232, ⟨(.type "code"), none, (.fields #[(.str "unchecked_thing" 463), (.str "SplitFamily.unchecked_thing" 464), (.str "/claim/cut.py" 465), (.int 91 0), (.int 3 0), (.int 0 0), (.int 0 0), (.int 3 0), (.ref 227), (.bool true), (.int 181 0), (.ref 228), .none, (.ref 229), (.ref 230), (.ref 231), (.int 469 0), (.int 91 0), (.str "/claim/cut.py" 470)]), #[]⟩) :: (nat_lit 233, ⟨(.type "function"), none, (.func (fnOf "unchecked_thing" "SplitFamily.unchecked_thing" (defArgs (inClass (top 14) 6)) (defBody (inClass (top 14) 6)) (defScope (inClass (top 14) 6)) .none .none .none (.str "countkin.kin" 288) none (.ref 232) .none)), #[]⟩) :: (nat_lit 234, ⟨(.type "tuple"), none, (.seq #[] 0), #[]⟩) :: (nat_lit 236, ⟨(.type "tuple"), none, (.seq #[(.str "self" 475), (.str "counts" 476), (.str "thing" 477)] 0), #[]⟩) :: (nat_lit 237, ⟨(.type "tuple"), none, (.seq #[] 0), #[]⟩) :: (nat_lit 239, ⟨(.type "code"), none, (.fields #[(.str "number_by_parts" 472), (.str "SplitFamily.number_by_parts" 473), (.str "/claim/cut.py" 474), (.int 94 0), (.int 3 0), (.int 0 0), (.int 0 0), (.int 3 0), (.ref 234), (.bool true), (.int 181 0), (.ref 235), .none, (.ref 236), (.ref 237), (.ref 238), (.int 478 0), (.int 94 0), (.str "/claim/cut.py" 479)]), #[]⟩) :: (nat_lit 240, ⟨(.type "function"), none, (.func (fnOf "number_by_parts" "SplitFamily.number_by_parts" (defArgs (inClass (top 14) 7)) (defBody (inClass (top 14) 7)) (defScope (inClass (top 14) 7)) .none .none .none (.str "countkin.kin" 288) none (.ref 239) .none)), #[]⟩) :: (nat_lit 241, ⟨(.type "tuple"), none, (.seq #[] 0), #[]⟩) :: (nat_lit 243, ⟨(.type "tuple"), none, (.seq #[(.str "self" 484), (.str "counts" 485), (.str "size" 486), (.str "number" 487)] 0), #[]⟩) :: (nat_lit 244, ⟨(.type "tuple"), none, (.seq #[] 0), #[]⟩) :: (nat_lit 246, ⟨(.type "code"), none, (.fields #[(.str "thing_by_parts" 481), (.str "SplitFamily.thing_by_parts" 482), (.str "/claim/cut.py" 483), (.int 97 0), (.int 4 0), (.int 0 0), (.int 0 0), (.int 3 0), (.ref 241), (.bool true), (.int 181 0), (.ref 242), .none, (.ref 243), (.ref 244), (.ref 245), (.int 488 0), (.int 97 0), (.str "/claim/cut.py" 489)]), #[]⟩) :: (nat_lit 247, ⟨(.type "function"), none, (.func (fnOf "thing_by_parts" "SplitFamily.thing_by_parts" (defArgs (inClass (top 14) 8)) (defBody (inClass (top 14) 8)) (defScope (inClass (top 14) 8)) .none .none .none (.str "countkin.kin" 288) none (.ref 246) .none)), #[]⟩) :: (nat_lit 248, ⟨(.type "tuple"), none, (.seq #[] 0), #[]⟩) :: (nat_lit 249, ⟨(.type "dict"), none, (.dict #[⟨PyData.keyHash P "__module__", .str "__module__" 410, (.str "countkin.kin" 288)⟩, ⟨PyData.keyHash P "__firstlineno__", .str "__firstlineno__" 414, (.int 71 413)⟩, ⟨PyData.keyHash P "__init__", .str "__init__" 422, (.ref 191)⟩, ⟨PyData.keyHash P "bare", .str "bare" 429, (.ref 198)⟩, ⟨PyData.keyHash P "parted", .str "parted" 437, (.ref 205)⟩, ⟨PyData.keyHash P "joined", .str "joined" 446, (.ref 212)⟩, ⟨PyData.keyHash P "unchecked_many", .str "unchecked_many" 454, (.ref 219)⟩, ⟨PyData.keyHash P "unchecked_number", .str "unchecked_number" 462, (.ref 226)⟩, ⟨PyData.keyHash P "unchecked_thing", .str "unchecked_thing" 471, (.ref 233)⟩, ⟨PyData.keyHash P "number_by_parts", .str "number_by_parts" 480, (.ref 240)⟩, ⟨PyData.keyHash P "thing_by_parts", .str "thing_by_parts" 490, (.ref 247)⟩, ⟨PyData.keyHash P "__static_attributes__", .str "__static_attributes__" 491, (.ref 248)⟩, ⟨PyData.keyHash P "__doc__", .str "__doc__" 492, .none⟩] 2), #[]⟩) :: (nat_lit 250, ⟨(.type "type"), none, (.cls ⟨"SplitFamily", [(.ref 173)], [(.ref 250), (.ref 173), (.type "object")], 249, "SplitFamily", true, [], [(.ref 302), (.ref 363), (.ref 417)], false, none, false⟩), #[(some (.ref 178)), none, (some (.str "SplitFamily" 403)), (some (.str "SplitFamily" 411)), (some (.builtin "object.__new__")), (some (.bool true))]⟩) :: (nat_lit 253, ⟨(.type "tuple"), none, (.seq #[(.ref 250)] 0), #[]⟩) :: (nat_lit 260, ⟨(.type "tuple"), none, (.seq #[] 0), #[]⟩) :: (nat_lit 262, ⟨(.type "tuple"), none, (.seq #[(.str "self" 512)] 0), #[]⟩) :: (nat_lit 263, ⟨(.type "tuple"), none, (.seq #[] 0), #[]⟩) :: (nat_lit 265, ⟨(.type "code"), none, (.fields #[(.str "__init__" 509), (.str "Bows.__init__" 510), (.str "/claim/cut.py" 511), (.int 102 0), (.int 1 0), (.int 0 0), (.int 0 0), (.int 3 0), (.ref 260), (.bool true), (.int 181 0), (.ref 261), .none, (.ref 262), (.ref 263), (.ref 264), (.int 513 0), (.int 102 0), (.str "/claim/cut.py" 514)]), #[]⟩) :: (nat_lit 266, ⟨(.type "function"), none, (.func (fnOf "__init__" "Bows.__init__" (defArgs (inClass (top 16) 0)) (defBody (inClass (top 16) 0)) (defScope (inClass (top 16) 0)) .none .none .none (.str "countkin.bends" 495) none (.ref 265) .none)), #[]⟩) :: (nat_lit 267, ⟨(.type "tuple"), none, (.seq #[] 0), #[]⟩) :: (nat_lit 269, ⟨(.type "tuple"), none, (.seq #[(.str "self" 519), (.str "thing" 520)] 0), #[]⟩) :: (nat_lit 270, ⟨(.type "tuple"), none, (.seq #[] 0), #[]⟩) :: (nat_lit 272, ⟨(.type "code"), none, (.fields #[(.str "size_of" 516), (.str "Bows.size_of" 517), (.str "/claim/cut.py" 518), (.int 105 0), (.int 2 0), (.int 0 0), (.int 0 0), (.int 3 0), (.ref 267), (.bool true), (.int 181 0), (.ref 268), .none, (.ref 269), (.ref 270), (.ref 271), (.int 521 0), (.int 105 0), (.str "/claim/cut.py" 522)]), #[]⟩) :: (nat_lit 273, ⟨(.type "function"), none, (.func (fnOf "size_of" "Bows.size_of" (defArgs (inClass (top 16) 1)) (defBody (inClass (top 16) 1)) (defScope (inClass (top 16) 1)) .none .none .none (.str "countkin.bends" 495) none (.ref 272) .none)), #[]⟩) :: (nat_lit 274, ⟨(.type "tuple"), none, (.seq #[] 0), #[]⟩) :: (nat_lit 277, ⟨(.type "code"), none, (.fields #[(.str "is_one" 524), (.str "Bows.is_one" 525), (.str "/claim/cut.py" 526), (.int 108 0), (.int 2 0), (.int 0 0), (.int 0 0), (.int 3 0), (.ref 274), (.bool true), (.int 181 0), (.ref 275), .none, .none, .none, (.ref 276), (.int 527 0), (.int 108 0), (.str "/claim/cut.py" 528)]), #[]⟩) :: (nat_lit 278, ⟨(.type "function"), none, (.func (fnOf "is_one" "Bows.is_one" (defArgs (inClass (top 16) 2)) (defBody (inClass (top 16) 2)) (defScope (inClass (top 16) 2)) .none .none .none (.str "countkin.bends" 495) none (.ref 277) .none)), #[]⟩) :: (nat_lit 279, ⟨(.type "tuple"), none, (.seq #[] 0), #[]⟩) :: (nat_lit 281, ⟨(.type "tuple"), none, (.seq #[(.str "self" 533)] 0), #[]⟩) :: (nat_lit 282, ⟨(.type "tuple"), none, (.seq #[] 0), #[]⟩) :: (nat_lit 284, ⟨(.type "code"), none, (.fields #[(.str "bare" 530), (.str "Bows.bare" 531), (.str "/claim/cut.py" 532), (.int 113 0), (.int 1 0), (.int 0 0), (.int 0 0), (.int 3 0), (.ref 279), (.bool true), (.int 181 0), (.ref 280), .none, (.ref 281), (.ref 282), (.ref 283), (.int 534 0), (.int 113 0), (.str "/claim/cut.py" 535)]), #[]⟩) :: (nat_lit 285, ⟨(.type "function"), none, (.func (fnOf "bare" "Bows.bare" (defArgs (inClass (top 16) 3)) (defBody (inClass (top 16) 3)) (defScope (inClass (top 16) 3)) .none .none .none (.str "countkin.bends" 495) none (.ref 284) .none)), #[]⟩) :: (nat_lit 286, ⟨(.type "tuple"), none, (.seq #[] 0), #[]⟩) :: (nat_lit 288, ⟨(.type "tuple"), none, (.seq #[(.str "self" 540), (.str "thing" 541)] 0), #[]⟩) :: (nat_lit 289, ⟨(.type "tuple"), none, (.seq #[] 0), #[]⟩) :: (nat_lit 291, ⟨(.type "code"), none, (.fields #[(.str "parted" 537), (.str "Bows.parted" 538), (.str "/claim/cut.py" 539), (.int 116 0), (.int 2 0), (.int 0 0), (.int 0 0), (.int 3 0), (.ref 286), (.bool true), (.int 181 0), (.ref 287), .none, (.ref 288), (.ref 289), (.ref 290), (.int 542 0), (.int 116 0), (.str "/claim/cut.py" 543)]), #[]⟩) :: (nat_lit 292, ⟨(.type "function"), none, (.func (fnOf "parted" "Bows.parted" (defArgs (inClass (top 16) 4)) (defBody (inClass (top 16) 4)) (defScope (inClass (top 16) 4)) .none .none .none (.str "countkin.bends" 495) none (.ref 291) .none)), #[]⟩) :: (nat_lit 293, ⟨(.type "tuple"), none, (.seq #[] 0), #[]⟩) :: (nat_lit 295, ⟨(.type "tuple"), none, (.seq #[(.str "self" 548), (.str "left" 549), (.str "right" 550)] 0), #[]⟩) :: (nat_lit 296, ⟨(.type "tuple"), none, (.seq #[] 0), #[]⟩) :: (nat_lit 298, ⟨(.type "code"), none, (.fields #[(.str "joined" 545), (.str "Bows.joined" 546), (.str "/claim/cut.py" 547), (.int 119 0), (.int 3 0), (.int 0 0), (.int 0 0), (.int 3 0), (.ref 293), (.bool true), (.int 181 0), (.ref 294), .none, (.ref 295), (.ref 296), (.ref 297), (.int 551 0), (.int 119 0), (.str "/claim/cut.py" 552)]), #[]⟩) :: (nat_lit 299, ⟨(.type "function"), none, (.func (fnOf "joined" "Bows.joined" (defArgs (inClass (top 16) 5)) (defBody (inClass (top 16) 5)) (defScope (inClass (top 16) 5)) .none .none .none (.str "countkin.bends" 495) none (.ref 298) .none)), #[]⟩) :: (nat_lit 300, ⟨(.type "tuple"), none, (.seq #[] 0), #[]⟩) :: (nat_lit 301, ⟨(.type "dict"), none, (.dict #[⟨PyData.keyHash P "__module__", .str "__module__" 504, (.str "countkin.bends" 495)⟩, ⟨PyData.keyHash P "__firstlineno__", .str "__firstlineno__" 508, (.int 100 507)⟩, ⟨PyData.keyHash P "__init__", .str "__init__" 515, (.ref 266)⟩, ⟨PyData.keyHash P "size_of", .str "size_of" 523, (.ref 273)⟩, ⟨PyData.keyHash P "is_one", .str "is_one" 529, (.ref 278)⟩, ⟨PyData.keyHash P "bare", .str "bare" 536, (.ref 285)⟩, ⟨PyData.keyHash P "parted", .str "parted" 544, (.ref 292)⟩, ⟨PyData.keyHash P "joined", .str "joined" 553, (.ref 299)⟩, ⟨PyData.keyHash P "__static_attributes__", .str "__static_attributes__" 554, (.ref 300)⟩, ⟨PyData.keyHash P "__doc__", .str "__doc__" 555, .none⟩] 2), #[]⟩) :: (nat_lit 302, ⟨(.type "type"), none, (.cls ⟨"Bows", [(.ref 250)], [(.ref 302), (.ref 250), (.ref 173), (.type "object")], 301, "Bows", true, [], [], false, none, false⟩), #[(some (.ref 253)), none, (some (.str "Bows" 497)), (some (.str "Bows" 505)), (some (.builtin "object.__new__")), (some (.bool true))]⟩) :: (nat_lit 305, ⟨(.type "tuple"), none, (.seq #[] 0), #[]⟩) :: (nat_lit 307, ⟨(.type "tuple"), none, (.seq #[(.str "text" 563), (.str "depth" 564), (.str "sign" 565)] 0), #[]⟩) :: (nat_lit 308, ⟨(.type "tuple"), none, (.seq #[] 0), #[]⟩) :: (nat_lit 310, ⟨(.type "code"), none, (.fields #[(.str "closes" 560), (.str "closes" 561), (.str "/claim/cut.py" 562), (.int 122 0), (.int 1 0), (.int 0 0), (.int 0 0), (.int 3 0), (.ref 305), (.bool true), (.int 181 0), (.ref 306), .none, (.ref 307), (.ref 308), (.ref 309), (.int 566 0), (.int 122 0), (.str "/claim/cut.py" 567)]), #[]⟩) :: (nat_lit 311, ⟨(.type "function"), none, (.func (fnOf "closes" "closes" (defArgs (top 18)) (defBody (top 18)) (defScope (top 18)) .none .none .none (.str "countkin.steps" 558) none (.ref 310) .none)), #[]⟩) :: (nat_lit 312, ⟨(.type "tuple"), none, (.seq #[(.ref 250)] 0), #[]⟩) :: (nat_lit 319, ⟨(.type "tuple"), none, (.seq #[] 0), #[]⟩) :: (nat_lit 321, ⟨(.type "tuple"), none, (.seq #[(.str "self" 586)] 0), #[]⟩) :: (nat_lit 322, ⟨(.type "tuple"), none, (.seq #[] 0), #[]⟩) :: (nat_lit 324, ⟨(.type "code"), none, (.fields #[(.str "__init__" 583), (.str "Brackets.__init__" 584), (.str "/claim/cut.py" 585), (.int 135 0), (.int 1 0), (.int 0 0), (.int 0 0), (.int 3 0), (.ref 319), (.bool true), (.int 181 0), (.ref 320), .none, (.ref 321), (.ref 322), (.ref 323), (.int 587 0), (.int 135 0), (.str "/claim/cut.py" 588)]), #[]⟩) :: (nat_lit 325, ⟨(.type "function"), none, (.func (fnOf "__init__" "Brackets.__init__" (defArgs (inClass (top 20) 0)) (defBody (inClass (top 20) 0)) (defScope (inClass (top 20) 0)) .none .none .none (.str "countkin.signs" 569) none (.ref 324) .none)), #[]⟩) :: (nat_lit 326, ⟨(.type "tuple"), none, (.seq #[] 0), #[]⟩) :: (nat_lit 328, ⟨(.type "tuple"), none, (.seq #[(.str "self" 593), (.str "thing" 594)] 0), #[]⟩) :: (nat_lit 329, ⟨(.type "tuple"), none, (.seq #[] 0), #[]⟩) :: (nat_lit 331, ⟨(.type "code"), none, (.fields #[(.str "size_of" 590), (.str "Brackets.size_of" 591), (.str "/claim/cut.py" 592), (.int 138 0), (.int 2 0), (.int 0 0), (.int 0 0), (.int 3 0), (.ref 326), (.bool true), (.int 181 0), (.ref 327), .none, (.ref 328), (.ref 329), (.ref 330), (.int 595 0), (.int 138 0), (.str "/claim/cut.py" 596)]), #[]⟩) :: (nat_lit 332, ⟨(.type "function"), none, (.func (fnOf "size_of" "Brackets.size_of" (defArgs (inClass (top 20) 1)) (defBody (inClass (top 20) 1)) (defScope (inClass (top 20) 1)) .none .none .none (.str "countkin.signs" 569) none (.ref 331) .none)), #[]⟩) :: (nat_lit 333, ⟨(.type "tuple"), none, (.seq #[] 0), #[]⟩) :: (nat_lit 335, ⟨(.type "tuple"), none, (.seq #[(.str "self" 601), (.str "thing" 602)] 0), #[]⟩) :: (nat_lit 336, ⟨(.type "tuple"), none, (.seq #[] 0), #[]⟩) :: (nat_lit 338, ⟨(.type "code"), none, (.fields #[(.str "is_one" 598), (.str "Brackets.is_one" 599), (.str "/claim/cut.py" 600), (.int 141 0), (.int 2 0), (.int 0 0), (.int 0 0), (.int 3 0), (.ref 333), (.bool true), (.int 181 0), (.ref 334), .none, (.ref 335), (.ref 336), (.ref 337), (.int 603 0), (.int 141 0), (.str "/claim/cut.py" 604)]), #[]⟩) :: (nat_lit 339, ⟨(.type "function"), none, (.func (fnOf "is_one" "Brackets.is_one" (defArgs (inClass (top 20) 2)) (defBody (inClass (top 20) 2)) (defScope (inClass (top 20) 2)) .none .none .none (.str "countkin.signs" 569) none (.ref 338) .none)), #[]⟩) :: (nat_lit 340, ⟨(.type "tuple"), none, (.seq #[] 0), #[]⟩) :: (nat_lit 342, ⟨(.type "tuple"), none, (.seq #[(.str "self" 609)] 0), #[]⟩) :: (nat_lit 343, ⟨(.type "tuple"), none, (.seq #[] 0), #[]⟩) :: (nat_lit 345, ⟨(.type "code"), none, (.fields #[(.str "bare" 606), (.str "Brackets.bare" 607), (.str "/claim/cut.py" 608), (.int 144 0), (.int 1 0), (.int 0 0), (.int 0 0), (.int 3 0), (.ref 340), (.bool true), (.int 181 0), (.ref 341), .none, (.ref 342), (.ref 343), (.ref 344), (.int 610 0), (.int 144 0), (.str "/claim/cut.py" 611)]), #[]⟩) :: (nat_lit 346, ⟨(.type "function"), none, (.func (fnOf "bare" "Brackets.bare" (defArgs (inClass (top 20) 3)) (defBody (inClass (top 20) 3)) (defScope (inClass (top 20) 3)) .none .none .none (.str "countkin.signs" 569) none (.ref 345) .none)), #[]⟩) :: (nat_lit 347, ⟨(.type "tuple"), none, (.seq #[] 0), #[]⟩) :: (nat_lit 349, ⟨(.type "tuple"), none, (.seq #[(.str "self" 616), (.str "thing" 617)] 0), #[]⟩) :: (nat_lit 350, ⟨(.type "tuple"), none, (.seq #[] 0), #[]⟩) :: (nat_lit 352, ⟨(.type "code"), none, (.fields #[(.str "parted" 613), (.str "Brackets.parted" 614), (.str "/claim/cut.py" 615), (.int 147 0), (.int 2 0), (.int 0 0), (.int 0 0), (.int 3 0), (.ref 347), (.bool true), (.int 181 0), (.ref 348), .none, (.ref 349), (.ref 350), (.ref 351), (.int 618 0), (.int 147 0), (.str "/claim/cut.py" 619)]), #[]⟩) :: (nat_lit 353, ⟨(.type "function"), none, (.func (fnOf "parted" "Brackets.parted" (defArgs (inClass (top 20) 4)) (defBody (inClass (top 20) 4)) (defScope (inClass (top 20) 4)) .none .none .none (.str "countkin.signs" 569) none (.ref 352) .none)), #[]⟩) :: (nat_lit 354, ⟨(.type "tuple"), none, (.seq #[] 0), #[]⟩) :: (nat_lit 356, ⟨(.type "tuple"), none, (.seq #[(.str "self" 624), (.str "left" 625), (.str "right" 626)] 0), #[]⟩) :: (nat_lit 357, ⟨(.type "tuple"), none, (.seq #[] 0), #[]⟩) :: (nat_lit 359, ⟨(.type "code"), none, (.fields #[(.str "joined" 621), (.str "Brackets.joined" 622), (.str "/claim/cut.py" 623), (.int 150 0), (.int 3 0), (.int 0 0), (.int 0 0), (.int 3 0), (.ref 354), (.bool true), (.int 181 0), (.ref 355), .none, (.ref 356), (.ref 357), (.ref 358), (.int 627 0), (.int 150 0), (.str "/claim/cut.py" 628)]), #[]⟩) :: (nat_lit 360, ⟨(.type "function"), none, (.func (fnOf "joined" "Brackets.joined" (defArgs (inClass (top 20) 5)) (defBody (inClass (top 20) 5)) (defScope (inClass (top 20) 5)) .none .none .none (.str "countkin.signs" 569) none (.ref 359) .none)), #[]⟩) :: (nat_lit 361, ⟨(.type "tuple"), none, (.seq #[] 0), #[]⟩) :: (nat_lit 362, ⟨(.type "dict"), none, (.dict #[⟨PyData.keyHash P "__module__", .str "__module__" 578, (.str "countkin.signs" 569)⟩, ⟨PyData.keyHash P "__firstlineno__", .str "__firstlineno__" 582, (.int 133 581)⟩, ⟨PyData.keyHash P "__init__", .str "__init__" 589, (.ref 325)⟩, ⟨PyData.keyHash P "size_of", .str "size_of" 597, (.ref 332)⟩, ⟨PyData.keyHash P "is_one", .str "is_one" 605, (.ref 339)⟩, ⟨PyData.keyHash P "bare", .str "bare" 612, (.ref 346)⟩, ⟨PyData.keyHash P "parted", .str "parted" 620, (.ref 353)⟩, ⟨PyData.keyHash P "joined", .str "joined" 629, (.ref 360)⟩, ⟨PyData.keyHash P "__static_attributes__", .str "__static_attributes__" 630, (.ref 361)⟩, ⟨PyData.keyHash P "__doc__", .str "__doc__" 631, .none⟩] 2), #[]⟩) :: (nat_lit 363, ⟨(.type "type"), none, (.cls ⟨"Brackets", [(.ref 250)], [(.ref 363), (.ref 250), (.ref 173), (.type "object")], 362, "Brackets", true, [], [], false, none, false⟩), #[(some (.ref 312)), none, (some (.str "Brackets" 571)), (some (.str "Brackets" 579)), (some (.builtin "object.__new__")), (some (.bool true))]⟩) :: (nat_lit 366, ⟨(.type "tuple"), none, (.seq #[(.ref 250)] 0), #[]⟩) :: (nat_lit 373, ⟨(.type "tuple"), none, (.seq #[] 0), #[]⟩) :: (nat_lit 375, ⟨(.type "tuple"), none, (.seq #[(.str "self" 649)] 0), #[]⟩) :: (nat_lit 376, ⟨(.type "tuple"), none, (.seq #[] 0), #[]⟩) :: (nat_lit 378, ⟨(.type "code"), none, (.fields #[(.str "__init__" 646), (.str "Stairs.__init__" 647), (.str "/claim/cut.py" 648), (.int 154 0), (.int 1 0), (.int 0 0), (.int 0 0), (.int 3 0), (.ref 373), (.bool true), (.int 181 0), (.ref 374), .none, (.ref 375), (.ref 376), (.ref 377), (.int 650 0), (.int 154 0), (.str "/claim/cut.py" 651)]), #[]⟩) :: (nat_lit 379, ⟨(.type "function"), none, (.func (fnOf "__init__" "Stairs.__init__" (defArgs (inClass (top 21) 0)) (defBody (inClass (top 21) 0)) (defScope (inClass (top 21) 0)) .none .none .none (.str "countkin.signs" 569) none (.ref 378) .none)), #[]⟩) :: (nat_lit 380, ⟨(.type "tuple"), none, (.seq #[] 0), #[]⟩) :: (nat_lit 382, ⟨(.type "tuple"), none, (.seq #[(.str "self" 656), (.str "thing" 657)] 0), #[]⟩) :: (nat_lit 383, ⟨(.type "tuple"), none, (.seq #[] 0), #[]⟩) :: (nat_lit 385, ⟨(.type "code"), none, (.fields #[(.str "size_of" 653), (.str "Stairs.size_of" 654), (.str "/claim/cut.py" 655), (.int 157 0), (.int 2 0), (.int 0 0), (.int 0 0), (.int 3 0), (.ref 380), (.bool true), (.int 181 0), (.ref 381), .none, (.ref 382), (.ref 383), (.ref 384), (.int 658 0), (.int 157 0), (.str "/claim/cut.py" 659)]), #[]⟩) :: (nat_lit 386, ⟨(.type "function"), none, (.func (fnOf "size_of" "Stairs.size_of" (defArgs (inClass (top 21) 1)) (defBody (inClass (top 21) 1)) (defScope (inClass (top 21) 1)) .none .none .none (.str "countkin.signs" 569) none (.ref 385) .none)), #[]⟩) :: (nat_lit 387, ⟨(.type "tuple"), none, (.seq #[] 0), #[]⟩) :: (nat_lit 389, ⟨(.type "tuple"), none, (.seq #[(.str "self" 664), (.str "thing" 665), (.str "ahead" 666), (.str "place" 667), (.str "number" 668)] 0), #[]⟩) :: (nat_lit 390, ⟨(.type "tuple"), none, (.seq #[] 0), #[]⟩) :: (nat_lit 392, ⟨(.type "code"), none, (.fields #[(.str "is_one" 661), (.str "Stairs.is_one" 662), (.str "/claim/cut.py" 663), (.int 160 0), (.int 2 0), (.int 0 0), (.int 0 0), (.int 3 0), (.ref 387), (.bool true), (.int 181 0), (.ref 388), .none, (.ref 389), (.ref 390), (.ref 391), (.int 669 0), (.int 160 0), (.str "/claim/cut.py" 670)]), #[]⟩) :: (nat_lit 393, ⟨(.type "function"), none, (.func (fnOf "is_one" "Stairs.is_one" (defArgs (inClass (top 21) 2)) (defBody (inClass (top 21) 2)) (defScope (inClass (top 21) 2)) .none .none .none (.str "countkin.signs" 569) none (.ref 392) .none)), #[]⟩) :: (nat_lit 394, ⟨(.type "tuple"), none, (.seq #[] 0), #[]⟩) :: (nat_lit 396, ⟨(.type "tuple"), none, (.seq #[(.str "self" 675)] 0), #[]⟩) :: (nat_lit 397, ⟨(.type "tuple"), none, (.seq #[] 0), #[]⟩) :: (nat_lit 399, ⟨(.type "code"), none, (.fields #[(.str "bare" 672), (.str "Stairs.bare" 673), (.str "/claim/cut.py" 674), (.int 168 0), (.int 1 0), (.int 0 0), (.int 0 0), (.int 3 0), (.ref 394), (.bool true), (.int 181 0), (.ref 395), .none, (.ref 396), (.ref 397), (.ref 398), (.int 676 0), (.int 168 0), (.str "/claim/cut.py" 677)]), #[]⟩) :: (nat_lit 400, ⟨(.type "function"), none, (.func (fnOf "bare" "Stairs.bare" (defArgs (inClass (top 21) 3)) (defBody (inClass (top 21) 3)) (defScope (inClass (top 21) 3)) .none .none .none (.str "countkin.signs" 569) none (.ref 399) .none)), #[]⟩) :: (nat_lit 401, ⟨(.type "tuple"), none, (.seq #[] 0), #[]⟩) :: (nat_lit 403, ⟨(.type "tuple"), none, (.seq #[(.str "self" 682), (.str "thing" 683)] 0), #[]⟩) :: (nat_lit 404, ⟨(.type "tuple"), none, (.seq #[] 0), #[]⟩) :: (nat_lit 406, ⟨(.type "code"), none, (.fields #[(.str "parted" 679), (.str "Stairs.parted" 680), (.str "/claim/cut.py" 681), (.int 171 0), (.int 2 0), (.int 0 0), (.int 0 0), (.int 3 0), (.ref 401), (.bool true), (.int 181 0), (.ref 402), .none, (.ref 403), (.ref 404), (.ref 405), (.int 684 0), (.int 171 0), (.str "/claim/cut.py" 685)]), #[]⟩) :: (nat_lit 407, ⟨(.type "function"), none, (.func (fnOf "parted" "Stairs.parted" (defArgs (inClass (top 21) 4)) (defBody (inClass (top 21) 4)) (defScope (inClass (top 21) 4)) .none .none .none (.str "countkin.signs" 569) none (.ref 406) .none)), #[]⟩) :: (nat_lit 408, ⟨(.type "tuple"), none, (.seq #[] 0), #[]⟩) :: (nat_lit 410, ⟨(.type "tuple"), none, (.seq #[(.str "self" 690), (.str "left" 691), (.str "right" 692)] 0), #[]⟩) :: (nat_lit 411, ⟨(.type "tuple"), none, (.seq #[] 0), #[]⟩) :: (nat_lit 413, ⟨(.type "code"), none, (.fields #[(.str "joined" 687), (.str "Stairs.joined" 688), (.str "/claim/cut.py" 689), (.int 174 0), (.int 3 0), (.int 0 0), (.int 0 0), (.int 3 0), (.ref 408), (.bool true), (.int 181 0), (.ref 409), .none, (.ref 410), (.ref 411), (.ref 412), (.int 693 0), (.int 174 0), (.str "/claim/cut.py" 694)]), #[]⟩) :: (nat_lit 414, ⟨(.type "function"), none, (.func (fnOf "joined" "Stairs.joined" (defArgs (inClass (top 21) 5)) (defBody (inClass (top 21) 5)) (defScope (inClass (top 21) 5)) .none .none .none (.str "countkin.signs" 569) none (.ref 413) .none)), #[]⟩) :: (nat_lit 415, ⟨(.type "tuple"), none, (.seq #[] 0), #[]⟩) :: (nat_lit 416, ⟨(.type "dict"), none, (.dict #[⟨PyData.keyHash P "__module__", .str "__module__" 641, (.str "countkin.signs" 569)⟩, ⟨PyData.keyHash P "__firstlineno__", .str "__firstlineno__" 645, (.int 152 644)⟩, ⟨PyData.keyHash P "__init__", .str "__init__" 652, (.ref 379)⟩, ⟨PyData.keyHash P "size_of", .str "size_of" 660, (.ref 386)⟩, ⟨PyData.keyHash P "is_one", .str "is_one" 671, (.ref 393)⟩, ⟨PyData.keyHash P "bare", .str "bare" 678, (.ref 400)⟩, ⟨PyData.keyHash P "parted", .str "parted" 686, (.ref 407)⟩, ⟨PyData.keyHash P "joined", .str "joined" 695, (.ref 414)⟩, ⟨PyData.keyHash P "__static_attributes__", .str "__static_attributes__" 696, (.ref 415)⟩, ⟨PyData.keyHash P "__doc__", .str "__doc__" 697, .none⟩] 2), #[]⟩) :: (nat_lit 417, ⟨(.type "type"), none, (.cls ⟨"Stairs", [(.ref 250)], [(.ref 417), (.ref 250), (.ref 173), (.type "object")], 416, "Stairs", true, [], [], false, none, false⟩), #[(some (.ref 366)), none, (some (.str "Stairs" 634)), (some (.str "Stairs" 642)), (some (.builtin "object.__new__")), (some (.bool true))]⟩) :: (nat_lit 420, ⟨(.type "tuple"), none, (.seq #[] 0), #[]⟩) :: (nat_lit 422, ⟨(.type "tuple"), none, (.seq #[(.str "thing" 705), (.str "found" 706), (.str "closed" 707), (.str "sign" 708)] 0), #[]⟩) :: (nat_lit 423, ⟨(.type "tuple"), none, (.seq #[] 0), #[]⟩) :: (nat_lit 425, ⟨(.type "code"), none, (.fields #[(.str "brackets_to_stairs" 702), (.str "brackets_to_stairs" 703), (.str "/claim/cut.py" 704), (.int 177 0), (.int 1 0), (.int 0 0), (.int 0 0), (.int 3 0), (.ref 420), (.bool true), (.int 181 0), (.ref 421), .none, (.ref 422), (.ref 423), (.ref 424), (.int 709 0), (.int 177 0), (.str "/claim/cut.py" 710)]), #[]⟩) :: (nat_lit 426, ⟨(.type "function"), none, (.func (fnOf "brackets_to_stairs" "brackets_to_stairs" (defArgs (top 23)) (defBody (top 23)) (defScope (top 23)) .none .none .none (.str "countkin.ways" 700) none (.ref 425) .none)), #[]⟩) :: (nat_lit 427, ⟨(.type "tuple"), none, (.seq #[] 0), #[]⟩) :: (nat_lit 429, ⟨(.type "tuple"), none, (.seq #[(.str "thing" 715), (.str "signs" 716), (.str "closed" 717), (.str "number" 718)] 0), #[]⟩) :: (nat_lit 430, ⟨(.type "tuple"), none, (.seq #[] 0), #[]⟩) :: (nat_lit 432, ⟨(.type "code"), none, (.fields #[(.str "stairs_to_brackets" 712), (.str "stairs_to_brackets" 713), (.str "/claim/cut.py" 714), (.int 187 0), (.int 1 0), (.int 0 0), (.int 0 0), (.int 3 0), (.ref 427), (.bool true), (.int 181 0), (.ref 428), .none, (.ref 429), (.ref 430), (.ref 431), (.int 719 0), (.int 187 0), (.str "/claim/cut.py" 720)]), #[]⟩) :: (nat_lit 433, ⟨(.type "function"), none, (.func (fnOf "stairs_to_brackets" "stairs_to_brackets" (defArgs (top 24)) (defBody (top 24)) (defScope (top 24)) .none .none .none (.str "countkin.ways" 700) none (.ref 432) .none)), #[]⟩) :: (nat_lit 434, ⟨(.type "tuple"), none, (.seq #[] 0), #[]⟩) :: (nat_lit 436, ⟨(.type "tuple"), none, (.seq #[(.str "thing" 725), (.str "found" 726), (.str "stack" 727), (.str "place" 728), (.str "sign" 729)] 0), #[]⟩) :: (nat_lit 437, ⟨(.type "tuple"), none, (.seq #[] 0), #[]⟩) :: (nat_lit 439, ⟨(.type "code"), none, (.fields #[(.str "brackets_to_bows" 722), (.str "brackets_to_bows" 723), (.str "/claim/cut.py" 724), (.int 195 0), (.int 1 0), (.int 0 0), (.int 0 0), (.int 3 0), (.ref 434), (.bool true), (.int 181 0), (.ref 435), .none, (.ref 436), (.ref 437), (.ref 438), (.int 730 0), (.int 195 0), (.str "/claim/cut.py" 731)]), #[]⟩) :: (nat_lit 440, ⟨(.type "function"), none, (.func (fnOf "brackets_to_bows" "brackets_to_bows" (defArgs (top 25)) (defBody (top 25)) (defScope (top 25)) .none .none .none (.str "countkin.ways" 700) none (.ref 439) .none)), #[]⟩) :: (nat_lit 441, ⟨(.type "tuple"), none, (.seq #[] 0), #[]⟩) :: (nat_lit 443, ⟨(.type "tuple"), none, (.seq #[(.str "thing" 736), (.str "signs" 737), (.str "a" 738), (.str "b" 739)] 0), #[]⟩) :: (nat_lit 444, ⟨(.type "tuple"), none, (.seq #[] 0), #[]⟩) :: (nat_lit 446, ⟨(.type "code"), none, (.fields #[(.str "bows_to_brackets" 733), (.str "bows_to_brackets" 734), (.str "/claim/cut.py" 735), (.int 205 0), (.int 1 0), (.int 0 0), (.int 0 0), (.int 3 0), (.ref 441), (.bool true), (.int 181 0), (.ref 442), .none, (.ref 443), (.ref 444), (.ref 445), (.int 740 0), (.int 205 0), (.str "/claim/cut.py" 741)]), #[]⟩) :: (nat_lit 447, ⟨(.type "function"), none, (.func (fnOf "bows_to_brackets" "bows_to_brackets" (defArgs (top 26)) (defBody (top 26)) (defScope (top 26)) .none .none .none (.str "countkin.ways" 700) none (.ref 446) .none)), #[]⟩) :: (nat_lit 448, ⟨(.type "tuple"), none, (.seq #[] 0), #[]⟩) :: (nat_lit 450, ⟨(.type "tuple"), none, (.seq #[(.str "_law_script" 748), (.str "_law_k" 749)] 0), #[]⟩) :: (nat_lit 451, ⟨(.type "tuple"), none, (.seq #[] 0), #[]⟩) :: (nat_lit 453, ⟨(.type "code"), none, (.fields #[(.str "_law_cell_at" 745), (.str "_law_cell_at" 746), (.str "/claim/cut.py" 747), (.int 212 0), (.int 2 0), (.int 0 0), (.int 0 0), (.int 3 0), (.ref 448), (.bool true), (.int 181 0), (.ref 449), .none, (.ref 450), (.ref 451), (.ref 452), (.int 750 0), (.int 212 0), (.str "/claim/cut.py" 751)]), #[]⟩) :: (nat_lit 454, ⟨(.type "function"), none, (.func (fnOf "_law_cell_at" "_law_cell_at" (defArgs (top 28)) (defBody (top 28)) (defScope (top 28)) .none .none .none (.str "law_countkin_k25_stairs_and_bows" 743) none (.ref 453) .none)), #[]⟩) :: (nat_lit 455, ⟨(.type "tuple"), none, (.seq #[] 0), #[]⟩) :: (nat_lit 457, ⟨(.type "tuple"), none, (.seq #[(.str "_law_found" 756)] 0), #[]⟩) :: (nat_lit 458, ⟨(.type "tuple"), none, (.seq #[] 0), #[]⟩) :: (nat_lit 460, ⟨(.type "code"), none, (.fields #[(.str "_law_whole" 753), (.str "_law_whole" 754), (.str "/claim/cut.py" 755), (.int 216 0), (.int 1 0), (.int 0 0), (.int 0 0), (.int 3 0), (.ref 455), (.bool true), (.int 181 0), (.ref 456), .none, (.ref 457), (.ref 458), (.ref 459), (.int 757 0), (.int 216 0), (.str "/claim/cut.py" 758)]), #[]⟩) :: (nat_lit 461, ⟨(.type "function"), none, (.func (fnOf "_law_whole" "_law_whole" (defArgs (top 29)) (defBody (top 29)) (defScope (top 29)) .none .none .none (.str "law_countkin_k25_stairs_and_bows" 743) none (.ref 460) .none)), #[]⟩) :: (nat_lit 462, ⟨(.type "tuple"), none, (.seq #[] 0), #[]⟩) :: (nat_lit 464, ⟨(.type "tuple"), none, (.seq #[(.str "_law_cell" 763), (.str "_law_turn" 764), (.str "_law_number" 765)] 0), #[]⟩) :: (nat_lit 465, ⟨(.type "tuple"), none, (.seq #[] 0), #[]⟩) :: (nat_lit 467, ⟨(.type "code"), none, (.fields #[(.str "_law_mix" 760), (.str "_law_mix" 761), (.str "/claim/cut.py" 762), (.int 218 0), (.int 2 0), (.int 0 0), (.int 0 0), (.int 3 0), (.ref 462), (.bool true), (.int 181 0), (.ref 463), .none, (.ref 464), (.ref 465), (.ref 466), (.int 766 0), (.int 218 0), (.str "/claim/cut.py" 767)]), #[]⟩) :: (nat_lit 468, ⟨(.type "function"), none, (.func (fnOf "_law_mix" "_law_mix" (defArgs (top 30)) (defBody (top 30)) (defScope (top 30)) .none .none .none (.str "law_countkin_k25_stairs_and_bows" 743) none (.ref 467) .none)), #[]⟩) :: (nat_lit 469, ⟨(.type "tuple"), none, (.seq #[] 0), #[]⟩) :: (nat_lit 471, ⟨(.type "tuple"), none, (.seq #[(.str "_law_text_here" 772), (.str "_law_height" 773), (.str "_law_sign" 774)] 0), #[]⟩) :: (nat_lit 472, ⟨(.type "tuple"), none, (.seq #[] 0), #[]⟩) :: (nat_lit 474, ⟨(.type "code"), none, (.fields #[(.str "_law_closes" 769), (.str "_law_closes" 770), (.str "/claim/cut.py" 771), (.int 221 0), (.int 1 0), (.int 0 0), (.int 0 0), (.int 3 0), (.ref 469), (.bool true), (.int 181 0), (.ref 470), .none, (.ref 471), (.ref 472), (.ref 473), (.int 775 0), (.int 221 0), (.str "/claim/cut.py" 776)]), #[]⟩) :: (nat_lit 475, ⟨(.type "function"), none, (.func (fnOf "_law_closes" "_law_closes" (defArgs (top 31)) (defBody (top 31)) (defScope (top 31)) .none .none .none (.str "law_countkin_k25_stairs_and_bows" 743) none (.ref 474) .none)), #[]⟩) :: (nat_lit 476, ⟨(.type "tuple"), none, (.seq #[] 0), #[]⟩) :: (nat_lit 479, ⟨(.type "code"), none, (.fields #[(.str "_law_draws" 778), (.str "_law_draws" 779), (.str "/claim/cut.py" 780), (.int 233 0), (.int 3 0), (.int 0 0), (.int 0 0), (.int 3 0), (.ref 476), (.bool true), (.int 181 0), (.ref 477), .none, .none, .none, (.ref 478), (.int 781 0), (.int 233 0), (.str "/claim/cut.py" 782)]), #[]⟩) :: (nat_lit 480, ⟨(.type "function"), none, (.func (fnOf "_law_draws" "_law_draws" (defArgs (top 32)) (defBody (top 32)) (defScope (top 32)) .none .none .none (.str "law_countkin_k25_stairs_and_bows" 743) none (.ref 479) .none)), #[]⟩) :: (nat_lit 481, ⟨(.type "tuple"), none, (.seq #[] 0), #[]⟩) :: (nat_lit 483, ⟨(.type "tuple"), none, (.seq #[(.str "_law_script" 787), (.str "_law_size" 788), (.str "_law_turn" 789), (.str "_law_draws_here" 790), (.str "_law_lean" 791), (.str "_law_signs" 792), (.str "_law_ups" 793), (.str "_law_k" 794), (.str "_law_height" 795), (.str "_law_up" 796)] 0), #[]⟩) :: (nat_lit 484, ⟨(.type "tuple"), none, (.seq #[] 0), #[]⟩) :: (nat_lit 486, ⟨(.type "code"), none, (.fields #[(.str "_law_text_by" 784), (.str "_law_text_by" 785), (.str "/claim/cut.py" 786), (.int 247 0), (.int 3 0), (.int 0 0), (.int 0 0), (.int 3 0), (.ref 481), (.bool true), (.int 181 0), (.ref 482), .none, (.ref 483), (.ref 484), (.ref 485), (.int 797 0), (.int 247 0), (.str "/claim/cut.py" 798)]), #[]⟩) :: (nat_lit 487, ⟨(.type "function"), none, (.func (fnOf "_law_text_by" "_law_text_by" (defArgs (top 33)) (defBody (top 33)) (defScope (top 33)) .none .none .none (.str "law_countkin_k25_stairs_and_bows" 743) none (.ref 486) .none)), #[]⟩) :: (nat_lit 488, ⟨(.type "tuple"), none, (.seq #[] 0), #[]⟩) :: (nat_lit 490, ⟨(.type "tuple"), none, (.seq #[(.str "_law_script" 803), (.str "_law_size" 804), (.str "_law_turn" 805), (.str "_law_row" 806), (.str "_law_low" 807), (.str "_law_k" 808), (.str "_law_number" 809)] 0), #[]⟩) :: (nat_lit 491, ⟨(.type "tuple"), none, (.seq #[] 0), #[]⟩) :: (nat_lit 493, ⟨(.type "code"), none, (.fields #[(.str "_law_stairs_by" 800), (.str "_law_stairs_by" 801), (.str "/claim/cut.py" 802), (.int 265 0), (.int 3 0), (.int 0 0), (.int 0 0), (.int 3 0), (.ref 488), (.bool true), (.int 181 0), (.ref 489), .none, (.ref 490), (.ref 491), (.ref 492), (.int 810 0), (.int 265 0), (.str "/claim/cut.py" 811)]), #[]⟩) :: (nat_lit 494, ⟨(.type "function"), none, (.func (fnOf "_law_stairs_by" "_law_stairs_by" (defArgs (top 34)) (defBody (top 34)) (defScope (top 34)) .none .none .none (.str "law_countkin_k25_stairs_and_bows" 743) none (.ref 493) .none)), #[]⟩) :: (nat_lit 495, ⟨(.type "tuple"), none, (.seq #[] 0), #[]⟩) :: (nat_lit 497, ⟨(.type "tuple"), none, (.seq #[(.str "_law_found" 816), (.str "_law_due" 817), (.str "_law_k" 818)] 0), #[]⟩) :: (nat_lit 498, ⟨(.type "tuple"), none, (.seq #[] 0), #[]⟩) :: (nat_lit 500, ⟨(.type "code"), none, (.fields #[(.str "_law_numbers" 813), (.str "_law_numbers" 814), (.str "/claim/cut.py" 815), (.int 272 0), (.int 2 0), (.int 0 0), (.int 0 0), (.int 3 0), (.ref 495), (.bool true), (.int 181 0), (.ref 496), .none, (.ref 497), (.ref 498), (.ref 499), (.int 819 0), (.int 272 0), (.str "/claim/cut.py" 820)]), #[]⟩) :: (nat_lit 501, ⟨(.type "function"), none, (.func (fnOf "_law_numbers" "_law_numbers" (defArgs (top 35)) (defBody (top 35)) (defScope (top 35)) .none .none .none (.str "law_countkin_k25_stairs_and_bows" 743) none (.ref 500) .none)), #[]⟩) :: (nat_lit 502, ⟨(.type "tuple"), none, (.seq #[] 0), #[]⟩) :: (nat_lit 504, ⟨(.type "tuple"), none, (.seq #[(.str "_law_found" 825), (.str "_law_due" 826), (.str "_law_k" 827)] 0), #[]⟩) :: (nat_lit 505, ⟨(.type "tuple"), none, (.seq #[] 0), #[]⟩) :: (nat_lit 507, ⟨(.type "code"), none, (.fields #[(.str "_law_pairs" 822), (.str "_law_pairs" 823), (.str "/claim/cut.py" 824), (.int 279 0), (.int 2 0), (.int 0 0), (.int 0 0), (.int 3 0), (.ref 502), (.bool true), (.int 181 0), (.ref 503), .none, (.ref 504), (.ref 505), (.ref 506), (.int 828 0), (.int 279 0), (.str "/claim/cut.py" 829)]), #[]⟩) :: (nat_lit 508, ⟨(.type "function"), none, (.func (fnOf "_law_pairs" "_law_pairs" (defArgs (top 36)) (defBody (top 36)) (defScope (top 36)) .none .none .none (.str "law_countkin_k25_stairs_and_bows" 743) none (.ref 507) .none)), #[]⟩) :: (nat_lit 509, ⟨(.type "tuple"), none, (.seq #[] 0), #[]⟩) :: (nat_lit 511, ⟨(.type "tuple"), none, (.seq #[(.str "_law_text_here" 834), (.str "_law_at" 835), (.str "_law_height" 836), (.str "_law_k" 837)] 0), #[]⟩) :: (nat_lit 512, ⟨(.type "tuple"), none, (.seq #[] 0), #[]⟩) :: (nat_lit 514, ⟨(.type "code"), none, (.fields #[(.str "_law_mate" 831), (.str "_law_mate" 832), (.str "/claim/cut.py" 833), (.int 288 0), (.int 2 0), (.int 0 0), (.int 0 0), (.int 3 0), (.ref 509), (.bool true), (.int 181 0), (.ref 510), .none, (.ref 511), (.ref 512), (.ref 513), (.int 838 0), (.int 288 0), (.str "/claim/cut.py" 839)]), #[]⟩) :: (nat_lit 515, ⟨(.type "function"), none, (.func (fnOf "_law_mate" "_law_mate" (defArgs (top 37)) (defBody (top 37)) (defScope (top 37)) .none .none .none (.str "law_countkin_k25_stairs_and_bows" 743) none (.ref 514) .none)), #[]⟩) :: (nat_lit 516, ⟨(.type "tuple"), none, (.seq #[] 0), #[]⟩) :: (nat_lit 519, ⟨(.type "code"), none, (.fields #[(.str "_law_stairs_of" 841), (.str "_law_stairs_of" 842), (.str "/claim/cut.py" 843), (.int 295 0), (.int 1 0), (.int 0 0), (.int 0 0), (.int 3 0), (.ref 516), (.bool true), (.int 181 0), (.ref 517), .none, .none, .none, (.ref 518), (.int 844 0), (.int 295 0), (.str "/claim/cut.py" 845)]), #[]⟩) :: (nat_lit 520, ⟨(.type "function"), none, (.func (fnOf "_law_stairs_of" "_law_stairs_of" (defArgs (top 38)) (defBody (top 38)) (defScope (top 38)) .none .none .none (.str "law_countkin_k25_stairs_and_bows" 743) none (.ref 519) .none)), #[]⟩) :: (nat_lit 521, ⟨(.type "tuple"), none, (.seq #[] 0), #[]⟩) :: (nat_lit 524, ⟨(.type "code"), none, (.fields #[(.str "_law_bows_of" 847), (.str "_law_bows_of" 848), (.str "/claim/cut.py" 849), (.int 297 0), (.int 1 0), (.int 0 0), (.int 0 0), (.int 3 0), (.ref 521), (.bool true), (.int 181 0), (.ref 522), .none, .none, .none, (.ref 523), (.int 850 0), (.int 297 0), (.str "/claim/cut.py" 851)]), #[]⟩) :: (nat_lit 525, ⟨(.type "function"), none, (.func (fnOf "_law_bows_of" "_law_bows_of" (defArgs (top 39)) (defBody (top 39)) (defScope (top 39)) .none .none .none (.str "law_countkin_k25_stairs_and_bows" 743) none (.ref 524) .none)), #[]⟩) :: (nat_lit 526, ⟨(.type "tuple"), none, (.seq #[] 0), #[]⟩) :: (nat_lit 528, ⟨(.type "tuple"), none, (.seq #[(.str "_law_found" 856), (.str "_law_due" 857)] 0), #[]⟩) :: (nat_lit 529, ⟨(.type "tuple"), none, (.seq #[] 0), #[]⟩) :: (nat_lit 531, ⟨(.type "code"), none, (.fields #[(.str "_law_text" 853), (.str "_law_text" 854), (.str "/claim/cut.py" 855), (.int 299 0), (.int 2 0), (.int 0 0), (.int 0 0), (.int 3 0), (.ref 526), (.bool true), (.int 181 0), (.ref 527), .none, (.ref 528), (.ref 529), (.ref 530), (.int 858 0), (.int 299 0), (.str "/claim/cut.py" 859)]), #[]⟩) :: (nat_lit 532, ⟨(.type "function"), none, (.func (fnOf "_law_text" "_law_text" (defArgs (top 40)) (defBody (top 40)) (defScope (top 40)) .none .none .none (.str "law_countkin_k25_stairs_and_bows" 743) none (.ref 531) .none)), #[]⟩) :: (nat_lit 533, ⟨(.type "tuple"), none, (.seq #[] 0), #[]⟩) :: (nat_lit 535, ⟨(.type "tuple"), none, (.seq #[(.str "_law_script" 864), (.str "_law_text_here" 865), (.str "_law_stairs" 866), (.str "_law_found" 867), (.str "_law_handed" 868), (.str "_law_bows" 869), (.str "_law_row" 870)] 0), #[]⟩) :: (nat_lit 536, ⟨(.type "tuple"), none, (.seq #[] 0), #[]⟩) :: (nat_lit 538, ⟨(.type "code"), none, (.fields #[(.str "law" 861), (.str "law" 862), (.str "/claim/cut.py" 863), (.int 301 0), (.int 1 0), (.int 0 0), (.int 0 0), (.int 3 0), (.ref 533), (.bool true), (.int 181 0), (.ref 534), .none, (.ref 535), (.ref 536), (.ref 537), (.int 871 0), (.int 301 0), (.str "/claim/cut.py" 872)]), #[]⟩) :: (nat_lit 539, ⟨(.type "function"), none, (.func (fnOf "law" "law" (defArgs (top 41)) (defBody (top 41)) (defScope (top 41)) .none .none .none (.str "law_countkin_k25_stairs_and_bows" 743) none (.ref 538) .none)), #[]⟩) :: []
noncomputable def hA : List Addr := (2 :: 3 :: 15 :: 17 :: 18 :: 20 :: 21 :: 22 :: 24 :: 25 :: 27 :: 28 :: 29 :: 31 :: 32 :: 34 :: 35 :: 36 :: 38 :: 39 :: 41 :: 42 :: 43 :: 45 :: 46 :: 48 :: 49 :: 50 :: 57 :: 58 :: 59 :: 60 :: 63 :: 70 :: 71 :: 72 :: 75 :: 82 :: 83 :: 84 :: 94 :: 96 :: 97 :: 99 :: 100 :: 101 :: 103 :: 104 :: 106 :: 107 :: 108 :: 110 :: 111 :: 113 :: 114 :: 115 :: 117 :: 118 :: 120 :: 121 :: 122 :: 124 :: 125 :: 127 :: 128 :: 129 :: 131 :: 132 :: 134 :: 135 :: 136 :: 138 :: 139 :: 141 :: 142 :: 143 :: 145 :: 146 :: 148 :: 149 :: 150 :: 152 :: 153 :: 155 :: 156 :: 157 :: 159 :: 160 :: 162 :: 163 :: 164 :: 166 :: 167 :: 169 :: 170 :: 171 :: 172 :: 173 :: 174 :: 175 :: 178 :: 185 :: 187 :: 188 :: 190 :: 191 :: 192 :: 194 :: 195 :: 197 :: 198 :: 199 :: 201 :: 202 :: 204 :: 205 :: 206 :: 208 :: 209 :: 211 :: 212 :: 213 :: 215 :: 216 :: 218 :: 219 :: 220 :: 222 :: 223 :: 225 :: 226 :: 227 :: 229 :: 230 :: 232 :: 233 :: 234 :: 236 :: 237 :: 239 :: 240 :: 241 :: 243 :: 244 :: 246 :: 247 :: 248 :: 249 :: 250 :: 253 :: 260 :: 262 :: 263 :: 265 :: 266 :: 267 :: 269 :: 270 :: 272 :: 273 :: 274 :: 277 :: 278 :: 279 :: 281 :: 282 :: 284 :: 285 :: 286 :: 288 :: 289 :: 291 :: 292 :: 293 :: 295 :: 296 :: 298 :: 299 :: 300 :: 301 :: 302 :: 305 :: 307 :: 308 :: 310 :: 311 :: 312 :: 319 :: 321 :: 322 :: 324 :: 325 :: 326 :: 328 :: 329 :: 331 :: 332 :: 333 :: 335 :: 336 :: 338 :: 339 :: 340 :: 342 :: 343 :: 345 :: 346 :: 347 :: 349 :: 350 :: 352 :: 353 :: 354 :: 356 :: 357 :: 359 :: 360 :: 361 :: 362 :: 363 :: 366 :: 373 :: 375 :: 376 :: 378 :: 379 :: 380 :: 382 :: 383 :: 385 :: 386 :: 387 :: 389 :: 390 :: 392 :: 393 :: 394 :: 396 :: 397 :: 399 :: 400 :: 401 :: 403 :: 404 :: 406 :: 407 :: 408 :: 410 :: 411 :: 413 :: 414 :: 415 :: 416 :: 417 :: 420 :: 422 :: 423 :: 425 :: 426 :: 427 :: 429 :: 430 :: 432 :: 433 :: 434 :: 436 :: 437 :: 439 :: 440 :: 441 :: 443 :: 444 :: 446 :: 447 :: 448 :: 450 :: 451 :: 453 :: 454 :: 455 :: 457 :: 458 :: 460 :: 461 :: 462 :: 464 :: 465 :: 467 :: 468 :: 469 :: 471 :: 472 :: 474 :: 475 :: 476 :: 479 :: 480 :: 481 :: 483 :: 484 :: 486 :: 487 :: 488 :: 490 :: 491 :: 493 :: 494 :: 495 :: 497 :: 498 :: 500 :: 501 :: 502 :: 504 :: 505 :: 507 :: 508 :: 509 :: 511 :: 512 :: 514 :: 515 :: 516 :: 519 :: 520 :: 521 :: 524 :: 525 :: 526 :: 528 :: 529 :: 531 :: 532 :: 533 :: 535 :: 536 :: 538 :: 539 :: [])
noncomputable abbrev hX : Shared → Bool := (fun s => xlAt hQ [] s && recOk (RowW.records (OpenRow.toRowW (OpenLaw.row PySem.Challenge.rw_countkin_k25_stairs_and_bows))) s)
theorem hKA : ∀ P : Params, hA = (hK P).map (·.1) := fun _ => by kernel_rfl
noncomputable abbrev hH : Hook := kHook hK hA hKA
noncomputable def hLook (P : Params) (s : Shared) := ((staticsOk (importedModules PySem.Challenge.pw_countkin_k25_stairs_and_bows.main.body) (boot_heap P) s.heap && namesBound PySem.Challenge.pw_countkin_k25_stairs_and_bows s.heap && gensDone s && laidKept (boot_heap P) s.heap), openSeen hQ hL (importedModules PySem.Challenge.pw_countkin_k25_stairs_and_bows.main.body) hX true s, hA.map s.heap.get?)
noncomputable def hPreF (w : World) (os : OsState) := topGo treeTable PySem.Challenge.pw_countkin_k25_stairs_and_bows w 11 (some (.ref 6)) 12 ⟨boot_heap w.params, Array.mk [], boot_drawn, boot_toks, os⟩ (topStub PySem.Challenge.pw_countkin_k25_stairs_and_bows)
noncomputable def hPreG (w : World) (os : OsState) : Option (Shared × Thread) := some ((hS w os).abs, ⟨denote treeTable hC, hC, ⟨0, 0, 0, 0⟩, [topFrame ⟨0, 0, 0, 0⟩]⟩)
noncomputable def hBlkF (w : World) (os : OsState) := segRun treeTable PySem.Challenge.pw_countkin_k25_stairs_and_bows w 11 (some (.ref 6)) 1 1 (hS w os).abs (blockOf hB hE hC ⟨0, 0, 0, 0⟩ [topFrame ⟨0, 0, 0, 0⟩])
noncomputable def hBlkG (w : World) (os : OsState) : Option (Flow × Shared × Code × Pos) := some (.next, (hS w os).abs, hC, ⟨0, 0, 0, 0⟩)
noncomputable def hRunF (w : World) (os : OsState) := (segRunT treeTable PySem.Challenge.pw_countkin_k25_stairs_and_bows w 11 (some (.ref 6)) 1 3747 (hS w os) (piecesOf hB hE hC ⟨0, 0, 0, 0⟩ [topFrame ⟨0, 0, 0, 0⟩])).map (lookEnd treeTable PySem.Challenge.pw_countkin_k25_stairs_and_bows w 11 (some (.ref 6)) ⟨0, 0, 0, 0⟩ hC 2 (hLook w.params))
noncomputable def hRunG (w : World) (_ : OsState) := some (Flow.next, hC, some (true, openGood hQ hL, (hK w.params).map fun p => some p.2))
noncomputable def hSizF (w : World) := ((boot_heap w.params).isNs mainGlobals && (Array.mk [] : Array GenState).size == 0, (boot_heap w.params).objs.size, (boot_heap w.params).nsMap mainGlobals "__annotations__")
noncomputable def hSizG (_ : World) : Bool × Nat × Option Value := (true, 11, (some (.ref 6)))
theorem hSeed : (fun _ _ _ _ _ _ _ _ => true) hPreF hPreG hBlkF hBlkG hRunF hRunG hSizF hSizG = true := by k_qdec
theorem hPre : hPreF = hPreG := Eq.trans PySem.W.Fast.te5317814654954331368 (Eq.trans (by kernel_rfl) (Eq.symm PySem.W.Fast.te14277440360295502494))
theorem hBlk : hBlkF = hBlkG := Eq.trans PySem.W.Fast.te2033988648308832629 (Eq.trans (by kernel_rfl) (Eq.symm PySem.W.Fast.te1798457917166677164))
theorem hRun : hRunF = hRunG := Eq.trans PySem.W.Fast.te6412348297585774662 (Eq.trans (by kernel_rfl) (Eq.symm PySem.W.Fast.te15447895654253735931))
theorem hSiz : hSizF = hSizG := Eq.trans PySem.W.Fast.te13693962943478796877 (by kernel_rfl)
theorem hLeft : LeftO PySem.Challenge.pw_countkin_k25_stairs_and_bows hQ hL hX (Hook.obs hH) (Hook.val hH) 7618 :=
  left_whole (boot_open (by kernel_rfl) (by decide) (fun _ => by kernel_rfl)) (fun w => congrFun hSiz w)
    (fun w os => run_whole (b := hB) (env := hE) (L := hLook w.params) rfl (congrFun (congrFun hPre w) os) (congrFun (congrFun hBlk w) os) (congrFun (congrFun hRun w) os)) (by decide)
end Ck
open PySem PySem.W PyProof.Rows
set_option maxRecDepth 100000 in
set_option maxHeartbeats 0 in
theorem PySem.Challenge.cw_countkin_k25_stairs_and_bows_holds : PySem.Challenge.rw_countkin_k25_stairs_and_bows.Holds := by
  w_on; o_law
  refine holds_open (q := Ck.hQ) (loose := Ck.hL) (Xt := Ck.hX) (XP := XL Ck.hQ []) (Yf := Hook.obs (kHook Ck.hK Ck.hA Ck.hKA)) (Ya := Hook.val (kHook Ck.hK Ck.hA Ck.hKA)) (YP := Hook.says (kHook Ck.hK Ck.hA Ck.hKA)) (N := 7618) Ck.hLeft (Hook.of (kHook Ck.hK Ck.hA Ck.hKA)) (Hook.keeps (kHook Ck.hK Ck.hA Ck.hKA))
    (fun s e => xl_of s (Bool.and_eq_true_iff.mp e).1) XL.keeps (by rfl) (by rfl) (by rfl) (fun s e => recFacts_of (Bool.and_eq_true_iff.mp e).2) (by rfl) (by first | assumption | decide +kernel) (by decide +kernel) ⟨rfl, rfl, rfl, rfl, rfl, by decide +kernel⟩ ?hw ?hc
  case hw => w_witness2
  k_fill
  refine Ck.walk (l := PySem.Challenge.rw_countkin_k25_stairs_and_bows) rfl rfl (fun w h Y => PySem.W.kIn_of Y) ?F
  case F =>
    intro w mg fa h KX G hmg
    refine' Ck.all_mk KX G hmg ?nc_Brackets ?nc_SplitFamily ?nc_Family ?nc_Stairs ?nc_Bows ?a_Brackets_refuse_other ?a_Brackets_is_one ?a_Stairs_refuse_other ?a_Stairs_is_one ?a_Bows_refuse_other ?a_Bows_is_one ?ai_Brackets ?ai_Stairs ?ai_Bows ?ch_SplitFamily___init___Brackets ?cg_SplitFamily___init___Brackets ?cr_SplitFamily___init___Brackets ?ch_Family___init___Brackets ?cg_Family___init___Brackets ?cr_Family___init___Brackets ?ch_SplitFamily___init___Stairs ?cg_SplitFamily___init___Stairs ?cr_SplitFamily___init___Stairs ?ch_Family___init___Stairs ?cg_Family___init___Stairs ?cr_Family___init___Stairs ?ch_SplitFamily___init___Bows ?cg_SplitFamily___init___Bows ?cr_SplitFamily___init___Bows ?ch_Family___init___Bows ?cg_Family___init___Bows ?cr_Family___init___Bows ?a1 ?l1 ?c1 ?k1 ?a2 ?l2 ?c2 ?k2 ?a3 ?l3 ?c3 ?k3 ?a4 ?l4 ?c4 ?k4 ?a5 ?l5 ?c5 ?k5 ?l6 ?c6 ?k6 ?i6 ?l7 ?c7 ?k7 ?i7 ?l8 ?c8 ?k8 ?i8 ?a9 ?l9 ?c9 ?k9 ?l10 ?c10 ?k10 ?i10 ?l11 ?c11 ?k11 ?i11 ?a12 ?l12 ?c12 ?k12 ?a13 ?l13 ?c13 ?k13 ?a14 ?l14 ?c14 ?k14 ?a15 ?l15 ?c15 ?k15 ?l16 ?c16 ?k16 ?i16 ?l17 ?c17 ?k17 ?i17 ?l18 ?c18 ?k18 ?i18 ?l19 ?c19 ?k19 ?i19 ?l20 ?c20 ?k20 ?i20 ?a21 ?l21 ?c21 ?k21 ?a22 ?l22 ?c22 ?k22 ?a23 ?l23 ?c23 ?k23 ?a24 ?l24 ?c24 ?k24 ?a25 ?l25 ?c25 ?k25 ?l26 ?c26 ?k26 ?i26 ?l27 ?c27 ?k27 ?i27 ?l28 ?c28 ?k28 ?i28 ?a29 ?l29 ?c29 ?k29 ?a30 ?l30 ?c30 ?k30 ?a31 ?l31 ?c31 ?k31 ?l32 ?c32 ?k32 ?i32 ?l33 ?c33 ?k33 ?i33 ?a34 ?l34 ?c34 ?k34 ?a35 ?l35 ?c35 ?k35 ?a36 ?l36 ?c36 ?k36 ?a37 ?l37 ?c37 ?k37 ?pg_Brackets ?hd_Brackets ?po_Brackets ?sa_Brackets ?pg_Stairs ?hd_Stairs ?po_Stairs ?sa_Stairs ?pg_Bows ?hd_Bows ?po_Bows ?sa_Bows ?mk_Brackets ?kc_Brackets ?mk_Stairs ?kc_Stairs ?mk_Bows ?kc_Bows ?na_Brackets_word ?na_Brackets_least ?na_Stairs_word ?na_Stairs_least ?na_Bows_word ?na_Bows_least ?z_range ?z_len ?z_isinstance ?z_int ?z_bool ?z_list ?z_str ?z_enumerate ?z_sorted ?z_tuple ?z_all
    (case nc_Brackets => k_is)
    (case nc_SplitFamily => k_is)
    (case nc_Family => k_is)
    (case nc_Stairs => k_is)
    (case nc_Bows => k_is)
    (case a_Brackets_refuse_other => k_is)
    (case a_Brackets_is_one => k_is)
    (case a_Stairs_refuse_other => k_is)
    (case a_Stairs_is_one => k_is)
    (case a_Bows_refuse_other => k_is)
    (case a_Bows_is_one => k_is)
    (case ai_Brackets => k_is)
    (case ai_Stairs => k_is)
    (case ai_Bows => k_is)
    (case ch_SplitFamily___init___Brackets => k_is)
    (case cg_SplitFamily___init___Brackets => k_is)
    (case cr_SplitFamily___init___Brackets => k_is)
    (case ch_Family___init___Brackets => k_is)
    (case cg_Family___init___Brackets => k_is)
    (case cr_Family___init___Brackets => k_is)
    (case ch_SplitFamily___init___Stairs => k_is)
    (case cg_SplitFamily___init___Stairs => k_is)
    (case cr_SplitFamily___init___Stairs => k_is)
    (case ch_Family___init___Stairs => k_is)
    (case cg_Family___init___Stairs => k_is)
    (case cr_Family___init___Stairs => k_is)
    (case ch_SplitFamily___init___Bows => k_is)
    (case cg_SplitFamily___init___Bows => k_is)
    (case cr_SplitFamily___init___Bows => k_is)
    (case ch_Family___init___Bows => k_is)
    (case cg_Family___init___Bows => k_is)
    (case cr_Family___init___Bows => k_is)
    (case a1 => k_is)
    (case l1 => k_is)
    (case c1 => k_is)
    (case k1 => k_is)
    (case a2 => k_is)
    (case l2 => k_is)
    (case c2 => k_is)
    (case k2 => k_is)
    (case a3 => k_is)
    (case l3 => k_is)
    (case c3 => k_is)
    (case k3 => k_is)
    (case a4 => k_is)
    (case l4 => k_is)
    (case c4 => k_is)
    (case k4 => k_is)
    (case a5 => k_is)
    (case l5 => k_is)
    (case c5 => k_is)
    (case k5 => k_is)
    (case l6 => k_is)
    (case c6 => k_is)
    (case k6 => k_is)
    (case i6 => k_is)
    (case l7 => k_is)
    (case c7 => k_is)
    (case k7 => k_is)
    (case i7 => k_is)
    (case l8 => k_is)
    (case c8 => k_is)
    (case k8 => k_is)
    (case i8 => k_is)
    (case a9 => k_is)
    (case l9 => k_is)
    (case c9 => k_is)
    (case k9 => k_is)
    (case l10 => k_is)
    (case c10 => k_is)
    (case k10 => k_is)
    (case i10 => k_is)
    (case l11 => k_is)
    (case c11 => k_is)
    (case k11 => k_is)
    (case i11 => k_is)
    (case a12 => k_is)
    (case l12 => k_is)
    (case c12 => k_is)
    (case k12 => k_is)
    (case a13 => k_is)
    (case l13 => k_is)
    (case c13 => k_is)
    (case k13 => k_is)
    (case a14 => k_is)
    (case l14 => k_is)
    (case c14 => k_is)
    (case k14 => k_is)
    (case a15 => k_is)
    (case l15 => k_is)
    (case c15 => k_is)
    (case k15 => k_is)
    (case l16 => k_is)
    (case c16 => k_is)
    (case k16 => k_is)
    (case i16 => k_is)
    (case l17 => k_is)
    (case c17 => k_is)
    (case k17 => k_is)
    (case i17 => k_is)
    (case l18 => k_is)
    (case c18 => k_is)
    (case k18 => k_is)
    (case i18 => k_is)
    (case l19 => k_is)
    (case c19 => k_is)
    (case k19 => k_is)
    (case i19 => k_is)
    (case l20 => k_is)
    (case c20 => k_is)
    (case k20 => k_is)
    (case i20 => k_is)
    (case a21 => k_is)
    (case l21 => k_is)
    (case c21 => k_is)
    (case k21 => k_is)
    (case a22 => k_is)
    (case l22 => k_is)
    (case c22 => k_is)
    (case k22 => k_is)
    (case a23 => k_is)
    (case l23 => k_is)
    (case c23 => k_is)
    (case k23 => k_is)
    (case a24 => k_is)
    (case l24 => k_is)
    (case c24 => k_is)
    (case k24 => k_is)
    (case a25 => k_is)
    (case l25 => k_is)
    (case c25 => k_is)
    (case k25 => k_is)
    (case l26 => k_is)
    (case c26 => k_is)
    (case k26 => k_is)
    (case i26 => k_is)
    (case l27 => k_is)
    (case c27 => k_is)
    (case k27 => k_is)
    (case i27 => k_is)
    (case l28 => k_is)
    (case c28 => k_is)
    (case k28 => k_is)
    (case i28 => k_is)
    (case a29 => k_is)
    (case l29 => k_is)
    (case c29 => k_is)
    (case k29 => k_is)
    (case a30 => k_is)
    (case l30 => k_is)
    (case c30 => k_is)
    (case k30 => k_is)
    (case a31 => k_is)
    (case l31 => k_is)
    (case c31 => k_is)
    (case k31 => k_is)
    (case l32 => k_is)
    (case c32 => k_is)
    (case k32 => k_is)
    (case i32 => k_is)
    (case l33 => k_is)
    (case c33 => k_is)
    (case k33 => k_is)
    (case i33 => k_is)
    (case a34 => k_is)
    (case l34 => k_is)
    (case c34 => k_is)
    (case k34 => k_is)
    (case a35 => k_is)
    (case l35 => k_is)
    (case c35 => k_is)
    (case k35 => k_is)
    (case a36 => k_is)
    (case l36 => k_is)
    (case c36 => k_is)
    (case k36 => k_is)
    (case a37 => k_is)
    (case l37 => k_is)
    (case c37 => k_is)
    (case k37 => k_is)
    (case pg_Brackets => k_is)
    (case hd_Brackets => k_is)
    (case po_Brackets => k_is)
    (case sa_Brackets => k_is)
    (case pg_Stairs => k_is)
    (case hd_Stairs => k_is)
    (case po_Stairs => k_is)
    (case sa_Stairs => k_is)
    (case pg_Bows => k_is)
    (case hd_Bows => k_is)
    (case po_Bows => k_is)
    (case sa_Bows => k_is)
    (case mk_Brackets => k_is)
    (case kc_Brackets => k_is)
    (case mk_Stairs => k_is)
    (case kc_Stairs => k_is)
    (case mk_Bows => k_is)
    (case kc_Bows => k_is)
    (case na_Brackets_word => k_is)
    (case na_Brackets_least => k_is)
    (case na_Stairs_word => k_is)
    (case na_Stairs_least => k_is)
    (case na_Bows_word => k_is)
    (case na_Bows_least => k_is)
    (case z_range => k_is)
    (case z_len => k_is)
    (case z_isinstance => k_is)
    (case z_int => k_is)
    (case z_bool => k_is)
    (case z_list => k_is)
    (case z_str => k_is)
    (case z_enumerate => k_is)
    (case z_sorted => k_is)
    (case z_tuple => k_is)
    (case z_all => k_is)
