import PyProof.Rows.All
import Wide.All
import OpenK.AllK
import Wide.FinOn
import Lean
import PyProof.EqAt
import PyProof.EqKinds
import PyProof.TupleCall
import KE.KMinBuiltin
import KE.KRevSl
import KE.KSortTup
import KE.KTryMore
import Open.Pieces
import OpenK.KQuick
import OpenK.KWalk
import PyProof.CollectWalk
import PyProof.DictWalks
import PyProof.ExcAttrAll.ValueError
import PyProof.FitsBits
import PyProof.ListRange
import PyProof.NeKinds
import PyProof.Rows.SetFrom
import PyProof.Rows.SortRuns
import PyProof.Rows.StrInSeq3
import PyProof.SetRoads
import PyProof.TupleKey
import PySem.Challenge.RW_countkin_k18_floors_looked_at
set_option Elab.async false
set_option linter.all false
set_option maxRecDepth 100000
namespace L2
open PySem PySem.Spec PyProof.Rows
noncomputable abbrev Key := Sum Int Str
noncomputable def keyIs : Key → Value → Bool
  | .inl k, v => Value.isInt k v
  | .inr x, v => Value.isStrOf x v
noncomputable def keyH (w : World) : Key → Int
  | .inl k => hashInt k
  | .inr x => hashStr w x
theorem keyIs_shape : ∀ {k : Key} {v : Value}, keyIs k v = true → (∃ i t, k = Sum.inl i ∧ v = Value.int i t) ∨ (∃ x t, k = Sum.inr x ∧ v = Value.str x t)
  | .inl i, v, h => by
    obtain ⟨t, e⟩ := Value.isInt_shape (k := i) (v := v) h
    exact .inl ⟨i, t, rfl, e⟩
  | .inr x, v, h => by
    obtain ⟨t, e⟩ := Value.isStrOf_shape (x := x) (v := v) h
    exact .inr ⟨x, t, rfl, e⟩
theorem key_ll (a b : Int) : decide ((Sum.inl a : Key) = Sum.inl b) = (a == b) := by
  by_cases e : a = b
  · subst e; simp
  · have h : ¬ (Sum.inl a : Key) = Sum.inl b := fun q => e (Sum.inl.inj q)
    rw [decide_eq_false h]
    exact (beq_eq_false_iff_ne.mpr e).symm
theorem key_rr (a b : Str) : decide ((Sum.inr a : Key) = Sum.inr b) = decide (a = b) := by
  by_cases e : a = b
  · subst e; simp
  · have h : ¬ (Sum.inr a : Key) = Sum.inr b := fun q => e (Sum.inr.inj q)
    rw [decide_eq_false h, decide_eq_false e]
theorem key_lr (a : Int) (b : Str) : decide ((Sum.inl a : Key) = Sum.inr b) = false := decide_eq_false (fun q => nomatch q)
theorem key_rl (a : Str) (b : Int) : decide ((Sum.inr a : Key) = Sum.inl b) = false := decide_eq_false (fun q => nomatch q)
noncomputable def mixKind (prog : Program) (w : World) : PySem.KeyKind prog w Key where
  is := keyIs
  hash := keyH w
  inj := fun v a b ha hb => by
    rcases keyIs_shape ha with ⟨i, t, rfl, rfl⟩ | ⟨x, t, rfl, rfl⟩
    · rcases keyIs_shape hb with ⟨j, u, rfl, e⟩ | ⟨y, u, rfl, e⟩
      · injection e with e1 _; rw [e1]
      · exact nomatch e
    · rcases keyIs_shape hb with ⟨j, u, rfl, e⟩ | ⟨y, u, rfl, e⟩
      · exact nomatch e
      · injection e with e1 _; rw [e1]
  byValue := fun k v h => by
    rcases keyIs_shape h with ⟨i, t, rfl, rfl⟩ | ⟨x, t, rfl, rfl⟩ <;> rfl
  pyHash := fun hv h => by
    rcases keyIs_shape hv with ⟨i, t, rfl, rfl⟩ | ⟨x, t, rfl, rfl⟩
    · exact wpAny_pyHash_int h
    · exact wpAny_pyHash_str h
  eqBool := fun hu hv h => by
    rcases keyIs_shape hu with ⟨i, t, rfl, rfl⟩ | ⟨x, t, rfl, rfl⟩
    · rcases keyIs_shape hv with ⟨j, u, rfl, rfl⟩ | ⟨y, u, rfl, rfl⟩
      · rw [key_ll] at h; exact wpAny_eqBool_int h
      · rw [key_lr] at h; exact SeqAt.EqAt.int_str i t y u _ _ _ _ h
    · rcases keyIs_shape hv with ⟨j, u, rfl, rfl⟩ | ⟨y, u, rfl, rfl⟩
      · rw [key_rl] at h; exact SeqAt.EqAt.str_int x t j u _ _ _ _ h
      · rw [key_rr] at h; exact wpAny_eqBool_str h
  «strs» := fun k x t v h => by
    rcases keyIs_shape h with ⟨i, u, rfl, e⟩ | ⟨y, u, rfl, e⟩
    · exact nomatch e
    · injection e with e1 _
      subst e1
      cases v <;> rfl
end L2
namespace L2
open PySem PySem.Spec PyProof.Rows
inductive V where
  | non | bl (b : Bool) | int (i : Int) | str (x : Str) | byt (b : Array UInt8) | flt (b : UInt64) | ref (a : Addr) | ty (n : String)
  deriving DecidableEq
noncomputable def RelV : V → Value → Prop
  | .non, u => u = Value.none
  | .bl b, u => u = Value.bool b
  | .int i, u => ∃ t, u = Value.int i t
  | .str x, u => ∃ t, u = Value.str x t
  | .byt b, u => ∃ t, u = Value.bytes b t
  | .flt b, u => ∃ t, u = Value.float b t
  | .ref a, u => u = Value.ref a
  | .ty n, u => u = Value.type n
noncomputable abbrev Vals : List V → List Value → Prop := Paired RelV
theorem Vals.length {xs : List V} {us : List Value} (r : Vals xs us) : xs.length = us.length := Paired.length r
theorem Vals.get : ∀ {xs : List V} {us : List Value} {i : Nat} {x : V}, Vals xs us → xs[i]? = some x → ∃ u, us[i]? = some u ∧ RelV x u
  | _, _, _, _, .nil, e => by simp at e
  | _, _, 0, _, .cons r _, e => by simp at e; subst e; exact ⟨_, rfl, r⟩
  | _, _, i + 1, x, .cons _ t, e => by
    obtain ⟨u, h1, h2⟩ := Vals.get (i := i) (x := x) t (by simpa using e)
    exact ⟨u, by simpa using h1, h2⟩
theorem Vals.set {x : V} {u : Value} (r : RelV x u) : ∀ {xs : List V} {us : List Value} (i : Nat), Vals xs us → Vals (xs.set i x) (us.set i u)
  | _, _, _, .nil => .nil
  | _, _, 0, .cons _ t => .cons r t
  | _, _, i + 1, .cons q t => .cons q (Vals.set r i t)
theorem Vals.append : ∀ {xs ys : List V} {us ws : List Value}, Vals xs us → Vals ys ws → Vals (xs ++ ys) (us ++ ws)
  | _, _, _, _, .nil, s => s
  | _, _, _, _, .cons r t, s => .cons r (Vals.append t s)
theorem Vals.take : ∀ {xs : List V} {us : List Value} (n : Nat), Vals xs us → Vals (xs.take n) (us.take n)
  | _, _, 0, _ => .nil
  | _, _, _ + 1, .nil => .nil
  | _, _, n + 1, .cons r t => .cons r (Vals.take n t)
theorem Vals.drop : ∀ {xs : List V} {us : List Value} (n : Nat), Vals xs us → Vals (xs.drop n) (us.drop n)
  | _, _, 0, r => r
  | _, _, _ + 1, .nil => .nil
  | _, _, n + 1, .cons _ t => Vals.drop n t
noncomputable def RelO : Option V → Option Value → Prop
  | some v, some u => RelV v u
  | none, none => True
  | _, _ => False
noncomputable def KV {κ : Type} : List (κ × V) → List (κ × Value) → Prop := Paired fun (p : κ × V) (q : κ × Value) => p.1 = q.1 ∧ RelV p.2 q.2
noncomputable def kV : Key → V
  | .inl i => .int i
  | .inr x => .str x
inductive HO where
  | lst (xs : List V)
  | tup (xs : List V)
  | dK (kvs : List (Key × V)) | dT (kvs : List (List Key × V))
  | set (S : Int → Bool) (n : Nat)
  | ins (C dx : Addr) (fs : List (Str × V))
  | own (x : Addr)
  | xd (fs : List (Str × V))
  | met (f x : Addr)
  | rng (lo hi : Int)
  | frz (o : Obj) (u : HO)
  | tbl (ps : Array Value)
  | ext (φ : Heap → Prop)
noncomputable abbrev Hp := Addr → Option HO
noncomputable def upd (H : Hp) (a : Addr) (o : HO) : Hp := fun b => if b = a then some o else H b
theorem upd_same {H : Hp} {a : Addr} {o : HO} : upd H a o a = some o := by unfold upd; rw [if_pos rfl]
theorem upd_ne {H : Hp} {a b : Addr} {o : HO} (h : b ≠ a) : upd H a o b = H b := by unfold upd; rw [if_neg h]
theorem upd_upd {H : Hp} {a : Addr} {o u : HO} : upd (upd H a o) a u = upd H a u := by
  funext b; unfold upd; split <;> rfl
theorem ne_of {H : Hp} {a b : Addr} {o u : HO} (h : H a = some o) (h' : H b = some u) (d : o ≠ u) : a ≠ b := by
  intro e; subst e; rw [h] at h'; exact d (Option.some.inj h')
theorem ne_of_none {H : Hp} {a b : Addr} {o : HO} (h : H a = some o) (h' : H b = none) : a ≠ b := by
  intro e; subst e; rw [h] at h'; cases h'
section
variable (P : Program) (w : World)
noncomputable def ObjOk (H : Hp) (h : Heap) (a : Addr) : HO → Prop
  | .lst xs => xs.length ≤ sizeLine ∧ ∃ (its : List Value) (n : Nat), Vals xs its ∧ h.get? a = some { cls := .type "list", data := .seq its.toArray n }
  | .tup xs => xs.length ≤ sizeLine ∧ ∃ its : List Value, Vals xs its ∧ IsTup h a its.toArray
  | .dK kvs => kvs.length ≤ sizeLine ∧ (a == sysModules) = false ∧ ∃ vs, KV kvs vs ∧ h.DictOf (mixKind P w) a vs
  | .dT kvs => kvs.length ≤ sizeLine ∧ (a == sysModules) = false ∧ ∃ xs : List (List Key × Addr × Value),
      Paired (fun (p : List Key × V) (q : List Key × Addr × Value) => p.1 = q.1 ∧ H q.2.1 = some (.tup (p.1.map kV)) ∧ RelV p.2 q.2.2) kvs xs ∧
      ∃ o es ep, h.get? a = some o ∧ o.ExactDict ∧ o.data = .dict es ep ∧ es.toList = xs.map (entryOfKey (tupleKind (mixKind P w))) ∧ (xs.map (·.1)).Nodup
  | .set S n => h.SetOf (intKind P w) a S n
  | .ins C dx fs => H dx = some (.own a) ∧ fs.length ≤ 1000 ∧ dx ≠ a ∧ h.get? a = some (PySem.W.instObj C dx) ∧
      ∃ mA, h.Ns1 dx mA ∧ (∀ f, RelO (fs.lookup f) (mA f)) ∧ PySem.Within mA (fs.map (·.1))
  | .own _ => ∃ o, h.get? a = some o
  | .xd fs => ∃ mA, h.Ns1 a mA ∧ ∀ f, RelO (fs.lookup f) (mA f)
  | .rng lo hi => ∃ t u v, h.get? a = some { cls := .type "range", data := .fields #[.int lo t, .int hi u, .int 1 v] }
  | .frz o u => h.get? a = some o ∧ ObjOk H h a u
  | .tbl ps => h.get? a = some { cls := .none, data := .fields ps }
  | .met f x => h.get? a = some (PySem.W.methodObj (.ref f) (.ref x))
  | .ext φ => φ h ∧ (∃ o, h.get? a = some o) ∧ ∀ h1 h2 : Heap, φ h1 → (∀ o, h1.get? a = some o → h2.get? a = some o) → φ h2
noncomputable def HOk (H : Hp) (h : Heap) : Prop := ∀ a o, H a = some o → ObjOk P w H h a o
end
section
variable {P : Program} {w : World} {H H' : Hp} {h h' : Heap} {a : Addr} {o : HO}
theorem ObjOk.lt (x : ObjOk P w H h a o) : a < h.objs.size := by
  cases o with
  | lst xs => obtain ⟨_, _, _, _, e⟩ := x; exact Heap.lt_size e
  | tup xs => obtain ⟨_, _, _, p⟩ := x; exact p.lt
  | dK kvs => obtain ⟨_, _, _, _, o, _, _, e, _⟩ := x; exact Heap.lt_size e
  | dT kvs => obtain ⟨_, _, _, _, o, _, _, e, _⟩ := x; exact Heap.lt_size e
  | set S n => obtain ⟨o, _, _, _, e, _⟩ := x; exact Heap.lt_size e
  | ins C dx fs => obtain ⟨_, _, _, e, _⟩ := x; exact Heap.lt_size e
  | own y => obtain ⟨_, e⟩ := x; exact Heap.lt_size e
  | xd fs => obtain ⟨_, ⟨_, _, _, e, _⟩, _⟩ := x; exact Heap.lt_size e
  | rng lo hi => obtain ⟨_, _, _, e⟩ := x; exact Heap.lt_size e
  | frz ob u => obtain ⟨e, _⟩ := x; exact Heap.lt_size e
  | tbl ps => exact Heap.lt_size (show h.get? a = some _ from x)
  | met f y => exact Heap.lt_size (show h.get? a = some _ from x)
  | ext φ => obtain ⟨_, ⟨_, e⟩, _⟩ := x; exact Heap.lt_size e
theorem Paired.mapP {α β : Type} {F G : α → β → Prop} : ∀ {l₁ : List α} {l₂ : List β}, Paired F l₁ l₂ → (∀ a b, F a b → G a b) → Paired G l₁ l₂
  | _, _, .nil, _ => .nil
  | _, _, .cons r t, f => .cons (f _ _ r) (Paired.mapP t f)
theorem ObjOk.stay (x : ObjOk P w H h a o) (k : ∀ b u, (b = a ∨ H b = some (.own a)) → h.get? b = some u → h'.get? b = some u)
    (ho : ∀ b, H b = some (.own a) → H' b = some (.own a)) (ht : ∀ b xs, H b = some (.tup xs) → H' b = some (.tup xs)) : ObjOk P w H' h' a o := by
  induction o with
  | lst xs => obtain ⟨z, its, n, r, e⟩ := x; exact ⟨z, its, n, r, k _ _ (.inl rfl) e⟩
  | tup xs => obtain ⟨z, its, r, ob, e, c⟩ := x; exact ⟨z, its, r, ob, k _ _ (.inl rfl) e, c⟩
  | dK kvs => obtain ⟨z, y, vs, r, ob, es, ep, e, c⟩ := x; exact ⟨z, y, vs, r, ob, es, ep, k _ _ (.inl rfl) e, c⟩
  | dT kvs =>
    obtain ⟨z, y, xs, r, ob, es, ep, e, c⟩ := x
    exact ⟨z, y, xs, Paired.mapP r fun p q z => ⟨z.1, ht _ _ z.2.1, z.2.2⟩, ob, es, ep, k _ _ (.inl rfl) e, c⟩
  | set S n => obtain ⟨ob, es, ep, t, e, c⟩ := x; exact ⟨ob, es, ep, t, k _ _ (.inl rfl) e, c⟩
  | ins C dx fs =>
    obtain ⟨d, z, ne, e, mA, ⟨od, es, ep, e2, c⟩, r⟩ := x
    exact ⟨ho _ d, z, ne, k _ _ (.inl rfl) e, mA, ⟨od, es, ep, k _ _ (.inr d) e2, c⟩, r⟩
  | own y => obtain ⟨ob, e⟩ := x; exact ⟨ob, k _ _ (.inl rfl) e⟩
  | xd fs => obtain ⟨mA, ⟨od, es, ep, e, c⟩, r⟩ := x; exact ⟨mA, ⟨od, es, ep, k _ _ (.inl rfl) e, c⟩, r⟩
  | rng lo hi => obtain ⟨t, u, v, e⟩ := x; exact ⟨t, u, v, k _ _ (.inl rfl) e⟩
  | frz ob u ih => obtain ⟨e, q⟩ := x; exact ⟨k _ _ (.inl rfl) e, ih q⟩
  | tbl ps =>
    have e : h.get? a = some { cls := .none, data := .fields ps } := x
    show h'.get? a = some { cls := .none, data := .fields ps }
    exact k a _ (.inl rfl) e
  | met f y =>
    have e : h.get? a = some (PySem.W.methodObj (.ref f) (.ref y)) := x
    show h'.get? a = some (PySem.W.methodObj (.ref f) (.ref y))
    exact k a _ (.inl rfl) e
  | ext φ => obtain ⟨p, ⟨o, e⟩, st⟩ := x; exact ⟨st _ _ p fun o q => k _ _ (.inl rfl) q, ⟨o, k _ _ (.inl rfl) e⟩, st⟩
theorem HOk.lt (x : HOk P w H h) (e : H a = some o) : a < h.objs.size := (x a o e).lt
theorem HOk.fresh (x : HOk P w H h) (e : h.objs.size ≤ a) : H a = none := by
  cases q : H a with
  | none => rfl
  | some u => exact absurd (Nat.lt_of_lt_of_le (x.lt q) e) (Nat.lt_irrefl _)
theorem HOk.kept (x : HOk P w H h) (k : ∀ b u, h.get? b = some u → h'.get? b = some u) : HOk P w H h' := fun a o e =>
  (x a o e).stay (fun b u _ q => k b u q) (fun _ q => q) fun _ _ q => q
theorem HOk.laid (x : HOk P w H h) (k : ∀ b u, h.get? b = some u → h'.get? b = some u) (hp : h.objs.size ≤ a) (new : ObjOk P w (upd H a o) h' a o) : HOk P w (upd H a o) h' := fun b u e => by
  have hn := x.fresh hp
  by_cases hb : b = a
  · subst hb; rw [upd_same] at e; cases e; exact new
  · rw [upd_ne hb] at e
    exact (x b u e).stay (fun c v _ q => k c v q) (fun c q => by rw [upd_ne (ne_of_none q hn)]; exact q) fun c xs q => by rw [upd_ne (ne_of_none q hn)]; exact q
end
noncomputable def Rd (H : Hp) (a : Addr) (u : HO) : Prop := H a = some u ∨ ∃ o, H a = some (.frz o u)
theorem Rd.ok {P : Program} {w : World} {H : Hp} {h : Heap} {a : Addr} {u : HO} (r : Rd H a u) (x : HOk P w H h) : ObjOk P w H h a u := by
  rcases r with r | ⟨o, r⟩
  · exact x a u r
  · obtain ⟨_, q⟩ := x a _ r
    exact q
noncomputable def Mut : Option HO → Prop
  | some (.lst _) => True
  | some (.dK _) => True
  | some (.dT _) => True
  | some (.set _ _) => True
  | some (.ins _ _ _) => True
  | some (.ext _) => True
  | _ => False
section
variable {P : Program} {w : World} {H : Hp} {h h' : Heap} {x e : Addr} {o' : HO}
theorem HOk.write (ok : HOk P w H h) (mu : Mut (H x)) (he : e = x ∨ H e = some (.own x)) (k : ∀ b u, b ≠ e → h.get? b = some u → h'.get? b = some u) (heo : ∃ u, h'.get? e = some u)
    (new : ObjOk P w (upd H x o') h' x o') : HOk P w (upd H x o') h' := fun b u q => by
  have nown : ∀ c y, H c = some (.own y) → c ≠ x := fun c y r z => by subst z; rw [r] at mu; exact mu
  have ntup : ∀ c xs, H c = some (.tup xs) → c ≠ x := fun c xs r z => by subst z; rw [r] at mu; exact mu
  by_cases hb : b = x
  · subst hb; rw [upd_same] at q; cases q; exact new
  · rw [upd_ne hb] at q
    by_cases hbe : b = e
    · have q' : H b = some (.own x) := by
        rcases he with z | z
        · exact absurd (hbe.trans z) hb
        · rw [hbe]; exact z
      rw [q] at q'; cases q'
      obtain ⟨v, hv⟩ := heo
      exact ⟨v, by rw [hbe]; exact hv⟩
    · refine (ok b u q).stay (fun c v hc r => k c v ?_ r) (fun c r => by rw [upd_ne (nown c b r)]; exact r) fun c xs r => by rw [upd_ne (ntup c xs r)]; exact r
      rcases hc with rfl | hc
      · exact hbe
      · rintro rfl
        rcases he with z | z
        · exact nown c b hc z
        · rw [hc] at z; cases z; exact hb rfl
end
structure Un (fs ex : List Addr) (H H' : Hp) (h h' : Heap) : Prop where
  keep : ∀ b o, h.get? b = some o → H b = none → b ∉ fs → b ∉ ex → h'.get? b = some o
  slot : ∀ b o, h.get? b = some o → H b = none → b ∈ fs → b ∉ ex → ∃ sl, h'.get? b = some { o with slots := sl }
  free : ∀ b o, h.get? b = some o → H b = none → b ∉ ex → H' b = none
  there : ∀ b o, h.get? b = some o → b ∉ ex → ∃ o', h'.get? b = some o'
  tups : ∀ b xs, H b = some (.tup xs) → H' b = some (.tup xs)
  frzs : ∀ b o u, H b = some (.frz o u) → H' b = some (.frz o u)
  tbls : ∀ b ps, H b = some (.tbl ps) → ∃ more, H' b = some (.tbl (ps ++ more))
section
variable {fs fs' ex ex' : List Addr} {H H1 H2 : Hp} {h h1 h2 h' : Heap} {a x e : Addr} {o : HO}
theorem Un.any (u : Un fs ex H H1 h h1) {b : Addr} {ob : Obj} (q : h.get? b = some ob) (n : H b = none) (hx : b ∉ ex) : ∃ sl, h1.get? b = some { ob with slots := sl } := by
  by_cases hb : b ∈ fs
  · exact u.slot b ob q n hb hx
  · exact ⟨ob.slots, u.keep b ob q n hb hx⟩
theorem Un.kept (k : ∀ b u, h.get? b = some u → h'.get? b = some u) : Un fs ex H H h h' :=
  ⟨fun b ob q _ _ _ => k b ob q, fun b ob q _ _ _ => ⟨ob.slots, k b ob q⟩, fun _ _ _ n _ => n, fun b ob q _ => ⟨ob, k b ob q⟩, fun _ _ q => q, fun _ _ _ q => q, fun _ ps q => ⟨#[], by rw [q]; simp⟩⟩
theorem Un.refl : Un fs ex H H h h := Un.kept fun _ _ q => q
theorem Un.laid (k : ∀ b u, h.get? b = some u → h'.get? b = some u) (hp : h.objs.size ≤ a) (hn : H a = none) : Un fs ex H (upd H a o) h h' where
  keep := fun b u q _ _ _ => k b u q
  slot := fun b u q _ _ _ => ⟨u.slots, k b u q⟩
  free := fun b u q n _ => by rw [upd_ne (Nat.ne_of_lt (Nat.lt_of_lt_of_le (Heap.lt_size q) hp))]; exact n
  there := fun b u q _ => ⟨u, k b u q⟩
  tups := fun b xs q => by rw [upd_ne (ne_of_none q hn)]; exact q
  frzs := fun b u xs q => by rw [upd_ne (ne_of_none q hn)]; exact q
  tbls := fun b ps q => ⟨#[], by rw [upd_ne (ne_of_none q hn), q]; simp⟩
theorem Un.write (mu : Mut (H x)) (he : e = x ∨ H e = some (.own x)) (k : ∀ b u, b ≠ e → h.get? b = some u → h'.get? b = some u) (heo : ∃ u, h'.get? e = some u) : Un fs ex H (upd H x o) h h' := by
  have hx : ∀ b, H b = none → b ≠ x := fun b n z => by subst z; rw [n] at mu; exact mu
  have hb : ∀ b, H b = none → b ≠ e := fun b n z => by
    subst z
    rcases he with r | r
    · exact hx b n r
    · rw [n] at r; cases r
  have hm : ∀ b u, H b = some u → ¬ Mut (some u) → b ≠ x := fun b u q nm z => by subst z; rw [q] at mu; exact nm mu
  refine ⟨fun b u q n _ _ => k b u (hb b n) q, fun b u q n _ _ => ⟨u.slots, k b u (hb b n) q⟩, fun b u q n _ => by rw [upd_ne (hx b n)]; exact n, fun b u q _ => ?_,
    fun b xs q => by rw [upd_ne (hm b _ q fun z => z)]; exact q, fun b u xs q => by rw [upd_ne (hm b _ q fun z => z)]; exact q, fun b ps q => ⟨#[], by rw [upd_ne (hm b _ q fun z => z), q]; simp⟩⟩
  by_cases hbe : b = e
  · subst hbe; exact heo
  · exact ⟨u, k b u hbe q⟩
end
noncomputable def trk (h : Heap) (H : Hp) : List Addr := (List.range h.objs.size).filter fun a => (H a).isSome
noncomputable def hidT (h : Heap) (H : Hp) : Heap := PySem.W.hideAll h (trk h H)
theorem hidT_size (h : Heap) (H : Hp) : (hidT h H).objs.size = h.objs.size := PySem.W.hideAll_size _ _
theorem hidT_get {h : Heap} {H : Hp} {b : Addr} {o : Obj} (e : h.get? b = some o) (n : H b = none) : (hidT h H).get? b = some o :=
  PySem.W.hideAll_get _ e fun hm => by
    have q : (H b).isSome = true := (List.mem_filter.mp hm).2
    rw [n] at q; simp at q
theorem of_hidT {h : Heap} {H : Hp} {b : Addr} {o : Obj} (e : (hidT h H).get? b = some o) : h.get? b = some o ∧ H b = none := by
  have e' : h.get? b = some o := PySem.W.of_hideAll (trk h H) e
  refine ⟨e', ?_⟩
  cases q : H b with
  | none => rfl
  | some x =>
    have hm : b ∈ trk h H := List.mem_filter.mpr ⟨List.mem_range.mpr (Heap.lt_size e'), by simp [q]⟩
    have z : (hidT h H).get? b = none := PySem.W.hideAll_none (trk h H) hm
    rw [z] at e; cases e
noncomputable def allNews (g h : Heap) (L : Addr) : List (Addr × Obj) := (List.range h.objs.size).filterMap fun a => if a = L ∨ (g.get? a).isSome = true then none else (h.get? a).map fun o => (a, o)
noncomputable def rest (g h : Heap) (L d : Addr) : List (Addr × Obj) := (allNews g h L).filter fun p => decide (p.1 ≠ d)
end L2
namespace L2
open PySem PySem.Spec PyProof.Rows
structure Mod (K : PySem.W.Frag) (mg : Str → Option Value) (base : Heap) : Prop where
  kin : K.In base
  glob : base.Ns mainGlobals mg
  blt : ∃ mb, base.Ns builtinsNs mb ∧ ∀ x : Str, x ≠ "__name__" → mb x = bootBuiltins x
  nolimit : base.NoLimit
structure Cx where
  prog : Program
  w : World
  K : PySem.W.Frag
  mg : Str → Option Value
  base : Heap
  A : Around
  N : List Str
  s₀ : Shared
  H₀ : Hp
  env : Env
  outer : List Env
  stack : List Env
  ex : List Addr
  fn : Str → Bool
  calm : Bool
  pn : List (Addr × Obj)
  xe : Value → Shared → Prop
noncomputable def frs (l : List Env) : List Addr := l.filterMap (·.frame)
noncomputable abbrev Cx.fs (X : Cx) : List Addr := frs X.outer
noncomputable def Vis (sc : Scope) (x : Str) : Prop := sc.names.lookup x = some .local ∨ sc.names.lookup x = some .cell ∨ sc.names.lookup x = some .free
noncomputable def Loc (sc : Scope) (x : Str) : Prop := sc.names.lookup x = some .local ∨ sc.names.lookup x = some .cell
noncomputable def Look (env : Env) (h : Heap) (m : Str → Option Value) (x : Str) (u : Value) : Prop :=
  (env.kindOf x = some .local ∧ m x = some u) ∨ ((env.kindOf x = some .cell ∨ env.kindOf x = some .free) ∧ ∃ c, env.cells.lookup x = some c ∧ h.IsCell c (some u))
structure Cx.Ok (X : Cx) : Prop where
  mod : Mod X.K X.mg X.base
  kind : X.env.scope.kind = .function
  glob : X.env.globals = mainGlobals
  blt : X.env.builtins = builtinsNs
  above : X.s₀.heap.objs.size ≤ X.env.locals
  inj : ∀ x y c, X.env.cells.lookup x = some c → X.env.cells.lookup y = some c → x = y
  has : ∀ x, (X.env.kindOf x = some .cell ∨ X.env.kindOf x = some .free) → ∃ c, X.env.cells.lookup x = some c
  cab : ∀ x c, X.fn x = true → X.env.cells.lookup x = some c → X.s₀.heap.objs.size ≤ c
  hd : X.calm = true → X.A.handled = none
  frames : X.A.frames = some X.stack
  stk : X.stack = X.outer ∨ (X.stack = X.env :: X.outer ∧ X.env.frame = some X.env.locals)
  exf : ∀ b ∈ X.ex, b ≠ X.env.locals ∧ ∀ x c, X.env.cells.lookup x = some c → c ≠ b
  bs : ∀ b o, X.base.get? b = some o → X.s₀.heap.get? b = some o ∧ X.H₀ b = none
  bsz : X.base.objs.size ≤ X.s₀.heap.objs.size
  noex : ∀ b o, X.base.get? b = some o → b ∉ X.ex
  exfs : ∀ b ∈ X.ex, b ∉ X.fs
  funs : X.s₀.heap.FunFrames X.base X.outer
  frf : ∀ b ∈ X.fs, X.H₀ b = none
structure Inv (X : Cx) (pins : List (Addr × Obj)) (σ : List (Option V)) (H : Hp) (s : Shared) : Prop where
  ok : X.Ok
  os : s.os = X.s₀.os
  bare : AllBare s.gens
  base : Un X.fs X.ex X.H₀ H X.s₀.heap s.heap
  loc : ∃ m, s.heap.Ns X.env.locals m ∧ ∀ (i : Nat) (x : Str) (v : V), X.N[i]? = some x → σ[i]? = some (some v) → Vis X.env.scope x → ∃ u, RelV v u ∧ Look X.env s.heap m x u
  cell : ∀ x c, X.env.cells.lookup x = some c → ∃ v, s.heap.IsCell c v
  free : H X.env.locals = none
  freeC : ∀ x c, X.env.cells.lookup x = some c → H c = none
  pin : ∀ p ∈ X.pn ++ pins, s.heap.get? p.1 = some p.2 ∧ H p.1 = none ∧ p.1 ≠ X.env.locals ∧ p.1 ∉ X.fs ∧ ∀ v, p.2.data ≠ .cell v
  hok : HOk X.prog X.w H s.heap
  len : σ.length = X.N.length
section
variable {X : Cx} {pins : List (Addr × Obj)} {σ : List (Option V)} {H H' : Hp} {s : Shared} {h' : Heap}
theorem Cx.Ok.nofr (ok : X.Ok) {b : Addr} {o : Obj} (e : X.base.get? b = some o) : b ∉ X.fs := fun hb => by
  have := (ok.funs.mem hb).1
  rw [e] at this; cases this
theorem Inv.bs (I : Inv X pins σ H s) : ∀ b o, X.base.get? b = some o → s.heap.get? b = some o ∧ H b = none := fun b o e =>
  ⟨I.base.keep b o (I.ok.bs b o e).1 (I.ok.bs b o e).2 (I.ok.nofr e) (I.ok.noex b o e), I.base.free b o (I.ok.bs b o e).1 (I.ok.bs b o e).2 (I.ok.noex b o e)⟩
theorem Inv.bk (I : Inv X pins σ H s) : ∀ b o, X.base.get? b = some o → s.heap.get? b = some o := fun b o e => (I.bs b o e).1
theorem Inv.mod (I : Inv X pins σ H s) : Mod X.K X.mg X.base := I.ok.mod
theorem Inv.kIn (I : Inv X pins σ H s) : X.K.In s.heap := I.ok.mod.kin.keeps I.bk
theorem Inv.fr (I : Inv X pins σ H s) : ∃ m, Fr X.base X.env.locals s.heap m :=
  let ⟨m, hn, _⟩ := I.loc
  ⟨m, hn, I.bk, Nat.le_trans I.ok.bsz I.ok.above⟩
theorem Inv.lt (I : Inv X pins σ H s) : X.env.locals < s.heap.objs.size := let ⟨_, hn, _⟩ := I.loc; hn.lt
theorem Inv.sz (I : Inv X pins σ H s) : X.s₀.heap.objs.size ≤ s.heap.objs.size := Nat.le_trans I.ok.above (Nat.le_of_lt I.lt)
theorem Inv.nofs (I : Inv X pins σ H s) {a : Addr} (h : s.heap.objs.size ≤ a) : a ∉ X.fs := fun hb => by
  obtain ⟨_, o, ho, _⟩ := I.ok.funs.mem hb
  exact absurd (Nat.lt_of_lt_of_le (Heap.lt_size ho) (Nat.le_trans I.sz h)) (Nat.lt_irrefl _)
theorem Inv.cne (I : Inv X pins σ H s) : ∀ x c, X.env.cells.lookup x = some c → c ≠ X.env.locals := fun x c e z => by
  obtain ⟨v, o, ho, hd⟩ := I.cell x c e
  obtain ⟨m, ⟨o', es, ep, ho', hd', _⟩, _⟩ := I.loc
  rw [z, ho'] at ho; cases ho; rw [hd'] at hd; cases hd
theorem Inv.funs (I : Inv X pins σ H s) : s.heap.FunFrames X.base X.outer := by
  have all : ∀ (l : List Env), (∀ b ∈ frs l, b ∈ X.fs) → X.s₀.heap.FunFrames X.base l → s.heap.FunFrames X.base l := by
    intro l
    induction l with
    | nil => intro _ _; trivial
    | cons env r ih =>
      intro hs hl
      obtain ⟨hk, ⟨L, o, hf, hn, ho, hd⟩, hr⟩ := hl
      have hL : L ∈ X.fs := hs L (by unfold frs; rw [List.filterMap_cons, hf]; exact List.mem_cons_self)
      obtain ⟨sl, e⟩ := I.base.slot L o ho (I.ok.frf L hL) hL fun z => I.ok.exfs L z hL
      exact ⟨hk, ⟨L, _, hf, hn, e, hd⟩, ih (fun b hb => hs b (by unfold frs; rw [List.filterMap_cons, hf]; exact List.mem_cons_of_mem _ hb)) hr⟩
  exact all X.outer (fun _ hb => hb) I.ok.funs
theorem Inv.stack (I : Inv X pins σ H s) : s.heap.FunFrames X.base X.stack := by
  rcases I.ok.stk with e | ⟨e, hf⟩
  · rw [e]; exact I.funs
  · rw [e]
    obtain ⟨m, hn, _⟩ := I.loc
    refine .cons (by rw [I.ok.kind]; decide) hf hn ?_ I.funs
    exact Heap.get?_none_of_le (Nat.le_trans I.ok.bsz I.ok.above)
theorem Inv.stkSub (I : Inv X pins σ H s) : ∀ b ∈ frs X.stack, b ∈ X.env.locals :: X.fs := fun b hb => by
  rcases I.ok.stk with e | ⟨e, hf⟩
  · rw [e] at hb; exact List.mem_cons_of_mem _ hb
  · rw [e] at hb
    unfold frs at hb
    rw [List.filterMap_cons, hf] at hb
    exact hb
theorem Inv.stkFree (I : Inv X pins σ H s) : ∀ b ∈ frs X.stack, H b = none := fun b hb => by
  rcases List.mem_cons.mp (I.stkSub b hb) with e | hb
  · rw [e]; exact I.free
  · obtain ⟨_, o, ho, _⟩ := I.ok.funs.mem hb
    exact I.base.free b o ho (I.ok.frf b hb) fun z => I.ok.exfs b z hb
theorem Inv.step {g' : Array GenState} {t' : Nat} {d' : Drawn} {ch : List Addr} (I : Inv X pins σ H s)
    (hch : ∀ b ∈ ch, (b ∈ X.ex ∨ X.s₀.heap.objs.size ≤ b) ∧ b ≠ X.env.locals ∧ (∀ x c, X.env.cells.lookup x = some c → c ≠ b) ∧ ∀ p ∈ X.pn ++ pins, p.1 ≠ b)
    (keep : ∀ b o, b ≠ X.env.locals → b ∉ X.fs → b ∉ ch → s.heap.get? b = some o → H b = none → h'.get? b = some o)
    (slot : ∀ b o, b ≠ X.env.locals → b ∈ X.fs → b ∉ ch → s.heap.get? b = some o → H b = none → ∃ sl, h'.get? b = some { o with slots := sl }) (free : ∀ b o, b ∉ ch → s.heap.get? b = some o → H b = none → H' b = none)
    (there : ∀ b o, b ∉ ch → s.heap.get? b = some o → ∃ o', h'.get? b = some o')
    (tups : ∀ b xs, H b = some (.tup xs) → H' b = some (.tup xs)) (frzs : ∀ b o u, H b = some (.frz o u) → H' b = some (.frz o u)) (tbls : ∀ b ps, H b = some (.tbl ps) → ∃ more, H' b = some (.tbl (ps ++ more)))
    (ns : ∀ m, s.heap.Ns X.env.locals m → h'.Ns X.env.locals m) (hok : HOk X.prog X.w H' h') (hg : AllBare g') :
    Inv X pins σ H' { s with heap := h', gens := g', drawn := d', toks := t' } := by
  have neL : ∀ b o, X.s₀.heap.get? b = some o → b ≠ X.env.locals := fun b o e => Nat.ne_of_lt (Nat.lt_of_lt_of_le (Heap.lt_size e) I.ok.above)
  have neC : ∀ b o, X.s₀.heap.get? b = some o → b ∉ X.ex → b ∉ ch := fun b o e hx hb => by
    rcases (hch b hb).1 with z | z
    · exact hx z
    · exact absurd (Nat.lt_of_lt_of_le (Heap.lt_size e) z) (Nat.lt_irrefl _)
  have cellK : ∀ x c, X.env.cells.lookup x = some c → ∀ v, s.heap.IsCell c v → h'.IsCell c v := fun x c e v ⟨o, ho, hd⟩ => by
    have nch : c ∉ ch := fun z => (hch c z).2.2.1 x c e rfl
    by_cases hc : c ∈ X.fs
    · obtain ⟨sl, q⟩ := slot c o (I.cne x c e) hc nch ho (I.freeC x c e)
      exact ⟨_, q, hd⟩
    · exact ⟨o, keep c o (I.cne x c e) hc nch ho (I.freeC x c e), hd⟩
  refine ⟨I.ok, I.os, hg, ⟨fun b o e n hb hx => ?_, fun b o e n hb hx => ?_, fun b o e n hx => ?_, fun b o e hx => ?_, fun b xs e => tups b xs (I.base.tups b xs e), fun b o xs e => frzs b o xs (I.base.frzs b o xs e), fun b ps e => ?_⟩, ?_, fun x c e => ?_, ?_, fun x c e => ?_, fun p hp => ?_, hok, I.len⟩
  · exact keep b o (neL b o e) hb (neC b o e hx) (I.base.keep b o e n hb hx) (I.base.free b o e n hx)
  · obtain ⟨sl, e1⟩ := I.base.slot b o e n hb hx
    obtain ⟨sl', e2⟩ := slot b _ (neL b o e) hb (neC b o e hx) e1 (I.base.free b o e n hx)
    exact ⟨sl', e2⟩
  · obtain ⟨o', e1⟩ := I.base.there b o e hx
    exact free b o' (neC b o e hx) e1 (I.base.free b o e n hx)
  · obtain ⟨o', e1⟩ := I.base.there b o e hx
    exact there b o' (neC b o e hx) e1
  · obtain ⟨m1, e1⟩ := I.base.tbls b ps e
    obtain ⟨m2, e2⟩ := tbls b _ e1
    exact ⟨m1 ++ m2, by rw [e2, Array.append_assoc]⟩
  · obtain ⟨m, hn, hl⟩ := I.loc
    refine ⟨m, ns m hn, fun i x v e1 e2 e3 => ?_⟩
    obtain ⟨u, r, l⟩ := hl i x v e1 e2 e3
    refine ⟨u, r, ?_⟩
    rcases l with l | ⟨k, c, e, z⟩
    · exact .inl l
    · exact .inr ⟨k, c, e, cellK x c e _ z⟩
  · obtain ⟨v, z⟩ := I.cell x c e
    exact ⟨v, cellK x c e v z⟩
  · obtain ⟨m, ⟨o, _, _, ho, _⟩, _⟩ := I.loc
    exact free _ o (fun z => (hch _ z).2.1 rfl) ho I.free
  · obtain ⟨v, o, ho, hd⟩ := I.cell x c e
    exact free c o (fun z => (hch c z).2.2.1 x c e rfl) ho (I.freeC x c e)
  · obtain ⟨e, n, ne, nf, d⟩ := I.pin p hp
    have nch : p.1 ∉ ch := fun z => (hch p.1 z).2.2.2 p hp rfl
    exact ⟨keep p.1 p.2 ne nf nch e n, free p.1 p.2 nch e n, ne, nf, d⟩
theorem Inv.un {t' : Nat} (I : Inv X pins σ H s) (u : Un X.fs [] H H' s.heap h') (hok : HOk X.prog X.w H' h') : Inv X pins σ H' { s with heap := h', toks := t' } := by
  obtain ⟨m, ⟨o, es, ep, ho, r⟩, _⟩ := id I.loc
  obtain ⟨sl, hL⟩ := u.any ho I.free (by simp)
  exact I.step (g' := s.gens) (d' := s.drawn) (ch := []) (fun _ z => nomatch z) (fun b o _ hb _ e n => u.keep b o e n hb (by simp)) (fun b o _ hb _ e n => u.slot b o e n hb (by simp)) (fun b o _ e n => u.free b o e n (by simp)) (fun b o _ e => u.there b o e (by simp)) u.tups u.frzs u.tbls (fun m' hm => by
    obtain ⟨o', es', ep', ho', r'⟩ := hm
    rw [ho] at ho'; cases ho'
    exact ⟨_, es', ep', hL, r'⟩) hok I.bare
theorem Inv.call {g' : Array GenState} {t' : Nat} {d' : Drawn} {ch : List Addr} (I : Inv X pins σ H s) (u : Un (frs X.stack) ch H H' s.heap h') (hok : HOk X.prog X.w H' h') (hg : AllBare g')
    (hch : ∀ b ∈ ch, (b ∈ X.ex ∨ X.s₀.heap.objs.size ≤ b) ∧ b ≠ X.env.locals ∧ (∀ x c, X.env.cells.lookup x = some c → c ≠ b) ∧ ∀ p ∈ X.pn ++ pins, p.1 ≠ b) :
    Inv X pins σ H' { s with heap := h', gens := g', drawn := d', toks := t' } := by
  obtain ⟨m, ⟨o, es, ep, ho, r⟩, _⟩ := id I.loc
  obtain ⟨sl, hL⟩ := u.any ho I.free fun z => (hch _ z).2.1 rfl
  exact I.step (ch := ch) hch (fun b o hL hb hc e n => u.keep b o e n (fun z => (List.mem_cons.mp (I.stkSub b z)).elim hL hb) hc) (fun b o _ _ hc e n => u.any e n hc) (fun b o hc e n => u.free b o e n hc) (fun b o hc e => u.there b o e hc) u.tups u.frzs u.tbls (fun m' hm => by
    obtain ⟨o', es', ep', ho', r'⟩ := hm
    rw [ho] at ho'; cases ho'
    exact ⟨_, es', ep', hL, r'⟩) hok hg
theorem Inv.turned {t' : Nat} {it : Addr} (I : Inv X pins σ H s) (k : ∀ b o, b ≠ it → s.heap.get? b = some o → h'.get? b = some o) (hn : H it = none) (hL : it ≠ X.env.locals)
    (h1 : it ∈ X.ex ∨ X.s₀.heap.objs.size ≤ it) (h2 : ∀ x c, X.env.cells.lookup x = some c → c ≠ it) (h3 : ∀ p ∈ X.pn ++ pins, p.1 ≠ it) : Inv X pins σ H { s with heap := h', toks := t' } := by
  have nit : ∀ b u, H b = some u → b ≠ it := fun b u e z => by rw [z, hn] at e; cases e
  refine I.step (g' := s.gens) (d' := s.drawn) (ch := [it]) (fun b hb => ?_) (fun b o _ _ hc e _ => k b o (fun z => hc (by simp [z])) e) (fun b o _ _ hc e _ => ⟨o.slots, k b o (fun z => hc (by simp [z])) e⟩) (fun _ _ _ _ n => n)
    (fun b o hc e => ⟨o, k b o (fun z => hc (by simp [z])) e⟩) (fun _ _ e => e) (fun _ _ _ e => e) (fun b ps e => ⟨#[], by rw [e]; simp⟩) (fun m hm => ?_) (fun b u e => ?_) I.bare
  · have e : b = it := by simpa using hb
    subst e
    exact ⟨h1, hL, h2, h3⟩
  · obtain ⟨o, es, ep, ho, r⟩ := hm
    exact ⟨o, es, ep, k _ o (Ne.symm hL) ho, r⟩
  · refine (I.hok b u e).stay (fun c v hc q => k c v ?_ q) (fun _ q => q) fun _ _ q => q
    rcases hc with z | z
    · rw [z]; exact nit b u e
    · exact nit c _ z
theorem Inv.tok (I : Inv X pins σ H s) (t : Nat) : Inv X pins σ H { s with toks := t } := I.un (h' := s.heap) (t' := t) Un.refl I.hok
theorem Inv.kept {t' : Nat} (I : Inv X pins σ H s) (k : ∀ b u, s.heap.get? b = some u → h'.get? b = some u) : Inv X pins σ H { s with heap := h', toks := t' } := I.un (Un.kept k) (I.hok.kept k)
theorem Inv.laid {a : Addr} {o : HO} {t' : Nat} (I : Inv X pins σ H s) (k : ∀ b u, s.heap.get? b = some u → h'.get? b = some u) (hp : s.heap.objs.size ≤ a) (new : ObjOk X.prog X.w (upd H a o) h' a o) :
    Inv X pins σ (upd H a o) { s with heap := h', toks := t' } := I.un (Un.laid k hp (I.hok.fresh hp)) (I.hok.laid k hp new)
theorem Inv.write {x e : Addr} {o : HO} {t' : Nat} (I : Inv X pins σ H s) (mu : Mut (H x)) (he : e = x ∨ H e = some (.own x)) (k : ∀ b u, b ≠ e → s.heap.get? b = some u → h'.get? b = some u) (heo : ∃ u, h'.get? e = some u)
    (new : ObjOk X.prog X.w (upd H x o) h' x o) : Inv X pins σ (upd H x o) { s with heap := h', toks := t' } := I.un (Un.write mu he k heo) (I.hok.write mu he k heo new)
theorem Inv.weak {σ' : List (Option V)} (I : Inv X pins σ H s) (hl : σ'.length = σ.length) (w : ∀ (i : Nat) v, σ'[i]? = some (some v) → σ[i]? = some (some v)) : Inv X pins σ' H s :=
  ⟨I.ok, I.os, I.bare, I.base, let ⟨m, hn, hl'⟩ := I.loc; ⟨m, hn, fun i x v e1 e2 e3 => hl' i x v e1 (w i v e2) e3⟩, I.cell, I.free, I.freeC, I.pin, I.hok, hl.trans I.len⟩
theorem Inv.pins_of {pins' : List (Addr × Obj)} (I : Inv X pins σ H s) (h : ∀ p ∈ pins', s.heap.get? p.1 = some p.2 ∧ H p.1 = none ∧ p.1 ≠ X.env.locals ∧ p.1 ∉ X.fs ∧ ∀ v, p.2.data ≠ .cell v) : Inv X pins' σ H s :=
  ⟨I.ok, I.os, I.bare, I.base, I.loc, I.cell, I.free, I.freeC, fun p hp => (List.mem_append.mp hp).elim (fun z => I.pin p (List.mem_append_left _ z)) (h p), I.hok, I.len⟩
theorem nodup_ix {N : List Str} (hN : N.Nodup) {i j : Nat} {x : Str} (a : N[i]? = some x) (b : N[j]? = some x) : i = j := by
  obtain ⟨h1, e1⟩ := List.getElem?_eq_some_iff.mp a
  obtain ⟨h2, e2⟩ := List.getElem?_eq_some_iff.mp b
  exact (List.getElem_inj hN).mp (e1.trans e2.symm)
theorem store_ok2 {M : Model} {A : Around} {E : Value → Shared → Prop} {i : Nat} {x : Str} {v : V} {u : Value} {Q : Unit → Shared → Prop} (I : Inv X pins σ H s) (hN : X.N.Nodup) (hi : X.N[i]? = some x) (hx : Loc X.env.scope x) (r : RelV v u)
    (h : ∀ s', Inv X pins (σ.set i (some v)) H s' → (∃ a, Heap.SameBut a s.heap s'.heap ∧ (a = X.env.locals ∨ X.env.cells.lookup x = some a)) → Q () s') (hf : X.fn x = true ∨ X.env.scope.names.lookup x = some .local := by first | exact .inl rfl | exact .inr rfl | assumption) : wpAny M A (storeName X.env x u) Q E s := by
  obtain ⟨m, hn, hl⟩ := id I.loc
  have hcls : (X.env.scope.kind == .class || (X.env.scope.kind == .module && X.env.locals != X.env.globals)) = false := by rw [I.ok.kind]; rfl
  have hiσ : i < σ.length := by rw [I.len]; exact (List.getElem?_eq_some_iff.mp hi).1
  have cne := I.cne
  have tracked : ∀ {a : Addr} {h' : Heap}, (∃ o, s.heap.get? a = some o ∧ H a = none) → Heap.SameBut a s.heap h' → HOk X.prog X.w H h' := fun {a h'} ha hs b ob e => by
    obtain ⟨_, _, hfree⟩ := ha
    refine (I.hok b ob e).stay (fun c w' hc q => (hs.2 c ?_).trans q) (fun _ q => q) fun _ _ q => q
    rintro rfl
    rcases hc with rfl | hc
    · rw [hfree] at e; cases e
    · rw [hfree] at hc; cases hc
  rcases hx with hk | hk
  · refine wpAny_storeName_local hk hn (fun h' hn' hs => ?_) hcls
    obtain ⟨oL, _, _, hoL, _⟩ := id hn
    refine h _ ⟨I.ok, I.os, I.bare, ⟨fun b o e n hb hx => ?_, fun b o e n hb hx => ?_, I.base.free, fun b o e hx => ?_, I.base.tups, I.base.frzs, I.base.tbls⟩, ⟨_, hn', fun j y v' e1 e2 e3 => ?_⟩, fun y c e => ?_, I.free, I.freeC, fun p hp => ?_, tracked ⟨oL, hoL, I.free⟩ hs, by simpa using I.len⟩ ⟨_, hs, .inl rfl⟩
    · exact (hs.2 b (Nat.ne_of_lt (Nat.lt_of_lt_of_le (Heap.lt_size e) I.ok.above))).trans (I.base.keep b o e n hb hx)
    · obtain ⟨sl, e1⟩ := I.base.slot b o e n hb hx
      exact ⟨sl, (hs.2 b (Nat.ne_of_lt (Nat.lt_of_lt_of_le (Heap.lt_size e) I.ok.above))).trans e1⟩
    · obtain ⟨o', e1⟩ := I.base.there b o e hx
      exact ⟨o', (hs.2 b (Nat.ne_of_lt (Nat.lt_of_lt_of_le (Heap.lt_size e) I.ok.above))).trans e1⟩
    · by_cases hj : j = i
      · subst hj
        rw [hi] at e1; cases e1
        rw [List.getElem?_set_self hiσ] at e2
        cases e2
        exact ⟨u, r, .inl ⟨hk, by simp⟩⟩
      · rw [List.getElem?_set_ne (Ne.symm hj)] at e2
        obtain ⟨u', r', q⟩ := hl j y v' e1 e2 e3
        refine ⟨u', r', ?_⟩
        rcases q with ⟨k, e⟩ | ⟨k, c, e, z⟩
        · refine .inl ⟨k, ?_⟩
          have : y ≠ x := fun e => hj (nodup_ix hN e1 (e ▸ hi))
          simp [this, e]
        · exact .inr ⟨k, c, e, z.sameBut hs (cne y c e)⟩
    · obtain ⟨w', z⟩ := I.cell y c e
      exact ⟨w', z.sameBut hs (cne y c e)⟩
    · obtain ⟨e, n, ne, nf, d⟩ := I.pin p hp
      exact ⟨(hs.2 p.1 ne).trans e, n, ne, nf, d⟩
  · have hfn : X.fn x = true := by
      rcases hf with z | z
      · exact z
      · rw [z] at hk; cases hk
    obtain ⟨c, hc⟩ := I.ok.has x (.inl hk)
    obtain ⟨w', z⟩ := I.cell x c hc
    refine wpAny_storeName_cell I.ok.kind hk hc z (fun h' hc' hs => ?_)
    obtain ⟨oc, hoc, hocd⟩ := id z
    refine h { s with heap := h' } ⟨I.ok, I.os, I.bare, ⟨fun b o e n hb hx => ?_, fun b o e n hb hx => ?_, I.base.free, fun b o e hx => ?_, I.base.tups, I.base.frzs, I.base.tbls⟩, ⟨m, hn.sameBut hs (Ne.symm (cne x c hc)), fun j y v' e1 e2 e3 => ?_⟩, fun y c' e => ?_, I.free, I.freeC, fun p hp => ?_, tracked ⟨oc, hoc, I.freeC x c hc⟩ hs, by simpa using I.len⟩ ⟨c, hs, .inr hc⟩
    · exact (hs.2 b (Nat.ne_of_lt (Nat.lt_of_lt_of_le (Heap.lt_size e) (I.ok.cab x c hfn hc)))).trans (I.base.keep b o e n hb hx)
    · obtain ⟨sl, e1⟩ := I.base.slot b o e n hb hx
      exact ⟨sl, (hs.2 b (Nat.ne_of_lt (Nat.lt_of_lt_of_le (Heap.lt_size e) (I.ok.cab x c hfn hc)))).trans e1⟩
    · obtain ⟨o', e1⟩ := I.base.there b o e hx
      exact ⟨o', (hs.2 b (Nat.ne_of_lt (Nat.lt_of_lt_of_le (Heap.lt_size e) (I.ok.cab x c hfn hc)))).trans e1⟩
    · by_cases hj : j = i
      · subst hj
        rw [hi] at e1; cases e1
        rw [List.getElem?_set_self hiσ] at e2
        cases e2
        exact ⟨u, r, .inr ⟨.inl hk, c, hc, hc'⟩⟩
      · rw [List.getElem?_set_ne (Ne.symm hj)] at e2
        obtain ⟨u', r', q⟩ := hl j y v' e1 e2 e3
        refine ⟨u', r', ?_⟩
        rcases q with q | ⟨k, c', e, z'⟩
        · exact .inl q
        · refine .inr ⟨k, c', e, z'.sameBut hs ?_⟩
          rintro rfl
          exact hj (nodup_ix hN e1 (I.ok.inj _ _ _ e hc ▸ hi))
    · by_cases hcc : c' = c
      · subst hcc; exact ⟨_, hc'⟩
      · obtain ⟨w2, z2⟩ := I.cell y c' e
        exact ⟨w2, z2.sameBut hs hcc⟩
    · obtain ⟨e, n, ne, nf, d⟩ := I.pin p hp
      refine ⟨(hs.2 p.1 ?_).trans e, n, ne, nf, d⟩
      intro q
      rw [q, hoc] at e
      have q' : oc = p.2 := Option.some.inj e
      exact d w' (by rw [← q']; exact hocd)
theorem store_ok {M : Model} {A : Around} {E : Value → Shared → Prop} {i : Nat} {x : Str} {v : V} {u : Value} {Q : Unit → Shared → Prop} (I : Inv X pins σ H s) (hN : X.N.Nodup) (hi : X.N[i]? = some x) (hx : Loc X.env.scope x) (r : RelV v u)
    (h : ∀ s', Inv X pins (σ.set i (some v)) H s' → Q () s') (hf : X.fn x = true ∨ X.env.scope.names.lookup x = some .local := by first | exact .inl rfl | exact .inr rfl | assumption) : wpAny M A (storeName X.env x u) Q E s :=
  store_ok2 I hN hi hx r (fun s' I' _ => h s' I') hf
theorem Inv.call' {s' : Shared} {ch : List Addr} (I : Inv X pins σ H s) (ho : s'.os = s.os) (u : Un (frs X.stack) ch H H' s.heap s'.heap) (hok : HOk X.prog X.w H' s'.heap) (hg : AllBare s'.gens)
    (hch : ∀ b ∈ ch, (b ∈ X.ex ∨ X.s₀.heap.objs.size ≤ b) ∧ b ≠ X.env.locals ∧ (∀ x c, X.env.cells.lookup x = some c → c ≠ b) ∧ ∀ p ∈ X.pn ++ pins, p.1 ≠ b) : Inv X pins σ H' s' := by
  obtain ⟨h', g', d', t', o'⟩ := s'
  have e : o' = s.os := ho
  subst e
  exact I.call (g' := g') (t' := t') (d' := d') u hok hg hch
end
noncomputable abbrev XK := Value → Option Addr → Hp → Prop
noncomputable abbrev St := List (Option V)
noncomputable abbrev VK := V → Hp → Prop
noncomputable abbrev TE := St → Hp → VK → Prop
noncomputable abbrev TT := St → Hp → (Bool → Hp → Prop) → Prop
noncomputable abbrev TA := St → Hp → (List V → Hp → Prop) → Prop
structure Ends where
  nx : St → Hp → Prop
  rt : VK
  bk : St → Hp → Prop := fun _ _ => False
  ct : St → Hp → Prop := fun _ _ => False
noncomputable abbrev TS := Ends → St → Hp → Prop
noncomputable def EP (X : Cx) (pins : List (Addr × Obj)) (σ : St) (Q : VK) (u : Value) (s' : Shared) : Prop := ∃ v H', Inv X pins σ H' s' ∧ RelV v u ∧ Q v H'
noncomputable def TP (X : Cx) (pins : List (Addr × Obj)) (σ : St) (Q : Bool → Hp → Prop) (b : Bool) (s' : Shared) : Prop := ∃ H', Inv X pins σ H' s' ∧ Q b H'
noncomputable def AP (X : Cx) (pins : List (Addr × Obj)) (σ : St) (Q : List V → Hp → Prop) (us : List Value) (s' : Shared) : Prop := ∃ vs H', Inv X pins σ H' s' ∧ Vals vs us ∧ Q vs H'
noncomputable def SP (X : Cx) (pins : List (Addr × Obj)) (D : Ends) (f : Flow) (s' : Shared) : Prop :=
  match f with
  | .next => ∃ σ' H', Inv X pins σ' H' s' ∧ D.nx σ' H'
  | .brk => ∃ σ' H', Inv X pins σ' H' s' ∧ D.bk σ' H'
  | .cont => ∃ σ' H', Inv X pins σ' H' s' ∧ D.ct σ' H'
  | .ret u => ∃ v σ' H', Inv X pins σ' H' s' ∧ RelV v u ∧ D.rt v H'
noncomputable def PE (X : Cx) (e : Expr) (t : TE) : Prop :=
  ∀ (pins : List (Addr × Obj)) (s : Shared) (σ : St) (H : Hp) (Q : VK), Inv X pins σ H s → t σ H Q → wpAny (model X.prog X.w) X.A (eval e X.env) (EP X pins σ Q) X.xe s
noncomputable def PT (X : Cx) (e : Expr) (t : TT) : Prop :=
  ∀ (pins : List (Addr × Obj)) (s : Shared) (σ : St) (H : Hp) (Q : Bool → Hp → Prop), Inv X pins σ H s → t σ H Q → wpAny (model X.prog X.w) X.A (isTrue e X.env (eval e X.env)) (TP X pins σ Q) X.xe s
noncomputable def PW (X : Cx) (e : Expr) (t : TT) : Prop :=
  ∀ (whole : Sem Value) (pins : List (Addr × Obj)) (s : Shared) (σ : St) (H : Hp) (Q : Bool → Hp → Prop), Inv X pins σ H s → t σ H Q → wpAny (model X.prog X.w) X.A (isTrue e X.env whole) (TP X pins σ Q) X.xe s
theorem PW.pt {X : Cx} {e : Expr} {t : TT} (h : PW X e t) : PT X e t := h _
noncomputable def PA (X : Cx) (es : List Expr) (t : TA) : Prop :=
  ∀ (pos : Pos) (pins : List (Addr × Obj)) (s : Shared) (σ : St) (H : Hp) (Q : List V → Hp → Prop), Inv X pins σ H s → t σ H Q → wpAny (model X.prog X.w) X.A (spliced (backTo pos (starEach es X.env))) (AP X pins σ Q) X.xe s
noncomputable def PS (X : Cx) (st : Stmt) (t : TS) : Prop :=
  ∀ (pins : List (Addr × Obj)) (s : Shared) (σ : St) (H : Hp) (D : Ends), Inv X pins σ H s → t D σ H → wpAny (model X.prog X.w) X.A (exec st X.env) (SP X pins D) X.xe s
noncomputable def PSs (X : Cx) (st : List Stmt) (t : TS) : Prop :=
  ∀ (pins : List (Addr × Obj)) (s : Shared) (σ : St) (H : Hp) (D : Ends), Inv X pins σ H s → t D σ H → wpAny (model X.prog X.w) X.A (execs st X.env) (SP X pins D) X.xe s
theorem thn {α : Type} {t : Sem α} {Q Q' : α → Shared → Prop} {M : Model} {A : Around} {E : Value → Shared → Prop} {s : Shared} (h : wpAny M A t Q E s) (hQ : ∀ a s, Q a s → Q' a s) : wpAny M A t Q' E s := wpAny_mono h hQ fun _ _ x => x
end L2
namespace L2
open PySem PySem.Spec PyProof.Rows
section
variable {X : Cx}
theorem bin {a b : Expr} {ta tb : TE} (ha : PE X a ta) (hb : PE X b tb) {pins : List (Addr × Obj)} {s : Shared} {σ : St} {H : Hp} {R : V → V → Hp → Prop} (I : Inv X pins σ H s) (h : ta σ H fun x H1 => tb σ H1 fun y H2 => R x y H2)
    {α : Type} {Q : α → Shared → Prop} {f : Value → Value → Sem α}
    (hf : ∀ v u s2 x y H2, Inv X pins σ H2 s2 → RelV x v → RelV y u → R x y H2 → wpAny (model X.prog X.w) X.A (f v u) Q X.xe s2) :
    wpAny (model X.prog X.w) X.A (eval a X.env) (fun v s₁ => wpAny (model X.prog X.w) X.A (eval b X.env) (fun u s₂ => wpAny (model X.prog X.w) X.A (f v u) Q X.xe s₂) X.xe s₁) X.xe s := by
  refine thn (ha pins s σ H _ I h) fun v s1 ⟨x, H1, I1, r1, q1⟩ => ?_
  refine thn (hb pins s1 σ H1 _ I1 q1) fun u s2 ⟨y, H2, I2, r2, q2⟩ => ?_
  exact hf v u s2 x y H2 I2 r1 r2 q2
noncomputable def tVar (i : Nat) : TE := fun σ H Q => ∃ v, σ[i]? = some (some v) ∧ Q v H
noncomputable def tC (v : V) : TE := fun _ H Q => Q v H
theorem pe_var {i : Nat} {x : Str} {pos : Pos} (hN : X.N[i]? = some x) (hv : Vis X.env.scope x) (hd : (x == ("__debug__" : Str)) = false := by decide) (hcd : (x == ("__classdict__" : Str)) = false := by decide) : PE X (.Name x pos) (tVar i) := by
  intro pins s σ H Q I h
  obtain ⟨v, e, h⟩ := h
  obtain ⟨m, hn, hl⟩ := I.loc
  obtain ⟨u, r, l⟩ := hl i x v hN e hv
  have fin : EP X pins σ Q u s := ⟨v, H, I, r, h⟩
  rcases l with ⟨hk, hm⟩ | ⟨hk, c, hc, hcell⟩
  · exact wpAny_Name (wpAny_loadName_local I.ok.kind hk hn hm fin) hd
  · rcases hk with hk | hk
    · exact wpAny_Name (wpAny_loadName_cell I.ok.kind hk hc hcell fin) hd
    · exact wpAny_Name (wpAny_loadName_free I.ok.kind hk hc hcell fin hcd) hd
theorem pe_int {i j pos} : PE X (.Constant (.int i) j pos) (tC (.int i)) := fun _ _ _ H _ I h => wpAny_Constant_int ⟨.int i, H, I.tok _, ⟨_, rfl⟩, h⟩
theorem pe_bl {b j pos} : PE X (.Constant (.bool b) j pos) (tC (.bl b)) := fun _ _ _ H _ I h => Constant_bool ⟨.bl b, H, I, rfl, h⟩
theorem pe_str {x j pos} : PE X (.Constant (.str x) j pos) (tC (.str x)) := fun _ _ _ H _ I h => Calls.Constant_str ⟨.str x, H, I.tok _, ⟨_, rfl⟩, h⟩
noncomputable def Gl (X : Cx) (x : Str) : Prop := X.env.kindOf x = some .globalImplicit
theorem ld_glob {E : Value → Shared → Prop} {pins : List (Addr × Obj)} {s : Shared} {σ : St} {H : Hp} {x : Str} {u : Value} {pos : Pos} {Q : Value → Shared → Prop} (I : Inv X pins σ H s) (hg : Gl X x) (hm : X.mg x = some u) (h : Q u s)
    (hd : (x == ("__debug__" : Str)) = false := by decide) : wpAny (model X.prog X.w) X.A (eval (.Name x pos) X.env) Q E s :=
  Calls.Name_function_global I.ok.kind hg (Calls.loadGlobal_global (by rw [I.ok.glob]; exact I.mod.glob.keeps I.bk) hm h) hd
theorem ld_blt {E : Value → Shared → Prop} {pins : List (Addr × Obj)} {s : Shared} {σ : St} {H : Hp} {x : Str} {u : Value} {pos : Pos} {Q : Value → Shared → Prop} (I : Inv X pins σ H s) (hg : Gl X x) (hm : X.mg x = none) (hv : bootBuiltins x = some u) (h : Q u s)
    (hn : x ≠ "__name__" := by decide) (hd : (x == ("__debug__" : Str)) = false := by decide) : wpAny (model X.prog X.w) X.A (eval (.Name x pos) X.env) Q E s := by
  obtain ⟨mb, h1, h2⟩ := I.mod.blt
  exact Calls.Name_function_global I.ok.kind hg (Calls.loadGlobal_builtin (by rw [I.ok.glob]; exact I.mod.glob.keeps I.bk) hm (by rw [I.ok.blt]; exact h1.keeps I.bk) ((h2 x hn).trans hv) h) hd
theorem pe_bltn {x : Str} {v : V} {u : Value} {pos : Pos} (hg : Gl X x) (hm : X.mg x = none) (hv : bootBuiltins x = some u) (r : RelV v u) (hn : x ≠ "__name__" := by decide) (hd : (x == ("__debug__" : Str)) = false := by decide) : PE X (.Name x pos) (tC v) :=
  fun _ _ _ H _ I h => ld_blt I hg hm hv ⟨v, H, I, r, h⟩ hn hd
variable {a b : Expr} {ta tb : TE} {pos : Pos}
noncomputable def PC (X : Cx) (op : CmpOp) (a b : Expr) (t : TE) : Prop :=
  ∀ (pins : List (Addr × Obj)) (s : Shared) (σ : St) (H : Hp) (Q : VK), Inv X pins σ H s → t σ H Q →
    wpAny (model X.prog X.w) X.A (eval a X.env) (fun v s₁ => wpAny (model X.prog X.w) X.A (eval b X.env) (fun u s₂ => wpAny (model X.prog X.w) X.A (compareOp op v u) (EP X pins σ Q) X.xe s₂) X.xe s₁) X.xe s
theorem nobehind (b : Expr) {op : CmpOp} (h : op ≠ .In) (h2 : op ≠ .NotIn) : behindInMarks op b = false := by
  have e1 : (op == CmpOp.In) = false := by cases op <;> first | rfl | exact absurd rfl h
  have e2 : (op == CmpOp.NotIn) = false := by cases op <;> first | rfl | exact absurd rfl h2
  cases b <;> simp [behindInMarks, e1, e2]
noncomputable def tB (t : TE) : TT := fun σ H Q => t σ H fun x H1 => ∃ c, x = .bl c ∧ Q c H1
theorem pt_cmp {op : CmpOp} {t : TE} (h : PC X op a b t) (h1 : behindInMarks op b = false := by first | exact nobehind _ (by decide) (by decide) | rfl) : PT X (.Compare a [op] [b] pos) (tB t) := by
  intro pins s σ H Q I hw
  refine wpAny_isTrue_Compare1 (thn (h pins s σ H _ I hw) fun v s1 h1 => thn h1 fun u s2 h2 => thn h2 fun c s3 ⟨x, H1, I1, r1, q1⟩ => ?_) h1
  obtain ⟨d, rfl, q⟩ := q1
  cases r1
  exact wpAny_truthy_bool ⟨H1, I1, q⟩
theorem pt_val {e : Expr} {t : TE} (h : PE X e t) (he : ∀ whole, isTrue e X.env whole = (do let v ← whole; standAt e.pos; holding [v] (truthy v)) := by intro _; rfl) : PT X e (tB t) := by
  intro pins s σ H Q I hw
  refine isTrue_plain (thn (h pins s σ H _ I hw) fun v s1 ⟨x, H1, I1, r1, q1⟩ => ?_) (he _)
  obtain ⟨d, rfl, q⟩ := q1
  cases r1
  exact wpAny_truthy_bool ⟨H1, I1, q⟩
variable {tA tB' : TT} {rest : List Expr}
noncomputable def tAnd (t u : TT) : TT := fun σ H Q => t σ H fun c H1 => if c = true then u σ H1 Q else Q false H1
noncomputable def tOr (t u : TT) : TT := fun σ H Q => t σ H fun c H1 => if c = true then Q true H1 else u σ H1 Q
noncomputable def tNot (t : TT) : TT := fun σ H Q => t σ H fun c H1 => Q (!c) H1
theorem pw_and1 (ha : PT X a tA) : PW X (.BoolOp .And [a] pos) tA := by
  intro wh pins s σ H Q I h
  refine isTrue_and (thn (ha pins s σ H Q I h) fun c s1 e => ?_)
  cases c with
  | true => exact isTrue_and_nil e
  | false => exact e
theorem pw_or1 (ha : PT X a tA) : PW X (.BoolOp .Or [a] pos) tA := by
  intro wh pins s σ H Q I h
  refine isTrue_or (thn (ha pins s σ H Q I h) fun c s1 e => ?_)
  cases c with
  | false => exact isTrue_or_nil e
  | true => exact e
theorem pw_and (ha : PT X a tA) (hb : PW X (.BoolOp .And (b :: rest) pos) tB') : PW X (.BoolOp .And (a :: b :: rest) pos) (tAnd tA tB') := by
  intro wh pins s σ H Q I h
  refine isTrue_and (thn (ha pins s σ H _ I h) fun c s1 ⟨H1, I1, q1⟩ => ?_)
  cases c with
  | true => exact hb wh pins s1 σ H1 Q I1 q1
  | false => exact ⟨H1, I1, q1⟩
theorem pw_or (ha : PT X a tA) (hb : PW X (.BoolOp .Or (b :: rest) pos) tB') : PW X (.BoolOp .Or (a :: b :: rest) pos) (tOr tA tB') := by
  intro wh pins s σ H Q I h
  refine isTrue_or (thn (ha pins s σ H _ I h) fun c s1 ⟨H1, I1, q1⟩ => ?_)
  cases c with
  | true => exact ⟨H1, I1, q1⟩
  | false => exact hb wh pins s1 σ H1 Q I1 q1
theorem pt_not (ha : PT X a tA) : PT X (.UnaryOp .Not a pos) (tNot tA) := by
  intro pins s σ H Q I h
  exact isTrue_not (ha pins s σ H (fun c H1 => Q (!c) H1) I h)
noncomputable def tAndV (ta tb : TE) : TE := fun σ H Q => ta σ H fun x H1 => ∃ c, x = .bl c ∧ if c = true then tb σ H1 Q else Q (.bl false) H1
noncomputable def tNotV (ta : TE) : TE := fun σ H Q => ta σ H fun x H1 => ∃ c, x = .bl c ∧ Q (.bl (!c)) H1
theorem pe_one {op} {t : TE} (h : PE X a t) : PE X (.BoolOp op [a] pos) t := fun pins s σ H Q I hw => BoolOp_one (h pins s σ H Q I hw)
theorem pe_and (ha : PE X a ta) (hb : PE X (.BoolOp .And (b :: rest) pos) tb) : PE X (.BoolOp .And (a :: b :: rest) pos) (tAndV ta tb) := by
  intro pins s σ H Q I h
  refine BoolOp_and (thn (ha pins s σ H _ I h) fun v s1 ⟨x, H1, I1, r1, q1⟩ => ?_)
  obtain ⟨c, rfl, q1⟩ := q1
  cases r1
  refine wpAny_truthy_bool ?_
  cases c with
  | true => exact hb pins s1 σ H1 Q I1 q1
  | false => exact ⟨.bl false, H1, I1, rfl, q1⟩
theorem pe_not (ha : PE X a ta) : PE X (.UnaryOp .Not a pos) (tNotV ta) := by
  intro pins s σ H Q I h
  refine UnaryOp_ (thn (ha pins s σ H _ I h) fun v s1 ⟨x, H1, I1, r1, q1⟩ => ?_)
  obtain ⟨c, rfl, q1⟩ := q1
  cases r1
  exact not_of (wpAny_truthy_bool ⟨.bl (!c), H1, I1, rfl, q1⟩)
end
end L2
namespace L2
open PySem PySem.Spec PyProof.Rows
noncomputable def SqL (K : PySem.W.Frag) (H : Hp) (a : Addr) (xs : List V) : Prop :=
  Rd H a (.lst xs) ∨
    ∃ (o : Obj) (its : Array Value) (n : Nat), K.lookup a = some o ∧ o.cls = .type "list" ∧ o.dict = none ∧ o.data = .seq its n ∧ its.size ≤ sizeLine ∧ Vals xs its.toList
noncomputable def SqT (K : PySem.W.Frag) (H : Hp) (a : Addr) (xs : List V) : Prop :=
  Rd H a (.tup xs) ∨
    ∃ (o : Obj) (its : Array Value) (n : Nat), K.lookup a = some o ∧ o.cls = .type "tuple" ∧ o.data = .seq its n ∧ its.size ≤ sizeLine ∧ Vals xs its.toList
noncomputable def absV : Value → Option V
  | .none => some .non
  | .bool b => some (.bl b)
  | .int i _ => some (.int i)
  | .str x _ => some (.str x)
  | .bytes b _ => some (.byt b)
  | .float b _ => some (.flt b)
  | .ref a => some (.ref a)
  | .type n => some (.ty n)
  | _ => none
theorem RelV.abs {x : V} {u : Value} (r : RelV x u) : absV u = some x := by
  cases x with
  | non => cases r; rfl
  | bl _ => cases r; rfl
  | int _ => obtain ⟨t, rfl⟩ := r; rfl
  | str _ => obtain ⟨t, rfl⟩ := r; rfl
  | byt _ => obtain ⟨t, rfl⟩ := r; rfl
  | flt _ => obtain ⟨t, rfl⟩ := r; rfl
  | ref _ => cases r; rfl
  | ty _ => cases r; rfl
theorem RelV.inj {x y : V} {u : Value} (r : RelV x u) (q : RelV y u) : x = y := Option.some.inj (r.abs.symm.trans q.abs)
theorem Vals.inj : ∀ {xs ys : List V} {us : List Value}, Vals xs us → Vals ys us → xs = ys
  | _, _, _, .nil, .nil => rfl
  | _, _, _, .cons r t, .cons r' t' => by rw [r.inj r', Vals.inj t t']
section
variable {X : Cx} {pins : List (Addr × Obj)} {σ : St} {H : Hp} {s : Shared} {a : Addr} {xs ys : List V}
theorem SqL.of {K : PySem.W.Frag} (h : H a = some (.lst xs)) : SqL K H a xs := .inl (.inl h)
theorem SqT.of {K : PySem.W.Frag} (h : H a = some (.tup xs)) : SqT K H a xs := .inl (.inl h)
theorem Inv.list (I : Inv X pins σ H s) (h : SqL X.K H a xs) : ∃ its : List Value, Vals xs its ∧ PlainL s.heap a its.toArray ∧ xs.length ≤ sizeLine := by
  rcases h with h | ⟨o, its, n, hk, hc, hd, hs, hz, r⟩
  · obtain ⟨z, its, n, r, e⟩ := h.ok I.hok
    exact ⟨its, r, ⟨_, n, e, rfl, rfl, rfl⟩, z⟩
  · refine ⟨its.toList, r, ⟨o, n, I.kIn a o hk, hc, hd, by simpa using hs⟩, ?_⟩
    have e := r.length
    simp only [Array.length_toList] at e
    omega
theorem Inv.tuple (I : Inv X pins σ H s) (h : SqT X.K H a xs) : ∃ its : List Value, Vals xs its ∧ IsTup s.heap a its.toArray ∧ xs.length ≤ sizeLine := by
  rcases h with h | ⟨o, its, n, hk, hc, hs, hz, r⟩
  · obtain ⟨z, its, r, p⟩ := h.ok I.hok
    exact ⟨its, r, p, z⟩
  · refine ⟨its.toList, r, ⟨o, I.kIn a o hk, hc, n, by simpa using hs⟩, ?_⟩
    have e := r.length
    simp only [Array.length_toList] at e
    omega
theorem Inv.list_inj (I : Inv X pins σ H s) (h : SqL X.K H a xs) (h' : SqL X.K H a ys) : xs = ys := by
  obtain ⟨its, r, ⟨o, n, e, _, _, d⟩, _⟩ := I.list h
  obtain ⟨its', r', ⟨o', n', e', _, _, d'⟩, _⟩ := I.list h'
  rw [e] at e'; cases e'
  rw [d] at d'
  injection d' with d1 _
  have : its = its' := by simpa using congrArg Array.toList d1
  subst this
  exact r.inj r'
end
noncomputable abbrev Cx.wish (X : Cx) (E : Value → Shared → Prop) : Cx := { X with xe := E }
noncomputable abbrev Cx.nox (X : Cx) : Cx := X.wish fun _ _ => False
theorem Cx.Ok.wish {X : Cx} (ok : X.Ok) (E : Value → Shared → Prop) : (X.wish E).Ok :=
  ⟨ok.mod, ok.kind, ok.glob, ok.blt, ok.above, ok.inj, ok.has, ok.cab, ok.hd, ok.frames, ok.stk, ok.exf, ok.bs, ok.bsz, ok.noex, ok.exfs, ok.funs, ok.frf⟩
theorem Cx.Ok.unwish {X : Cx} {E : Value → Shared → Prop} (ok : (X.wish E).Ok) : X.Ok :=
  ⟨ok.mod, ok.kind, ok.glob, ok.blt, ok.above, ok.inj, ok.has, ok.cab, ok.hd, ok.frames, ok.stk, ok.exf, ok.bs, ok.bsz, ok.noex, ok.exfs, ok.funs, ok.frf⟩
section
variable {X : Cx} {pins : List (Addr × Obj)} {σ : St} {H : Hp} {s : Shared} {E : Value → Shared → Prop}
theorem Inv.wish (I : Inv X pins σ H s) (E : Value → Shared → Prop) : Inv (X.wish E) pins σ H s := ⟨I.ok.wish E, I.os, I.bare, I.base, I.loc, I.cell, I.free, I.freeC, I.pin, I.hok, I.len⟩
theorem Inv.unwish (I : Inv (X.wish E) pins σ H s) : Inv X pins σ H s := ⟨I.ok.unwish, I.os, I.bare, I.base, I.loc, I.cell, I.free, I.freeC, I.pin, I.hok, I.len⟩
theorem SP.unwish {D : Ends} {f : Flow} {s' : Shared} (h : SP (X.wish E) pins D f s') : SP X pins D f s' := by
  cases f with
  | next => obtain ⟨σ', H', I, q⟩ := h; exact ⟨σ', H', I.unwish, q⟩
  | brk => obtain ⟨σ', H', I, q⟩ := h; exact ⟨σ', H', I.unwish, q⟩
  | cont => obtain ⟨σ', H', I, q⟩ := h; exact ⟨σ', H', I.unwish, q⟩
  | ret u => obtain ⟨v, σ', H', I, r, q⟩ := h; exact ⟨v, σ', H', I.unwish, r, q⟩
theorem PSs.nox {st : List Stmt} {t : TS} (h : PSs X.nox st t) : PSs X st t := fun pins s σ H D I hw =>
  wpAny_mono (h pins s σ H D (I.wish _) hw) (fun _ _ q => q.unwish) fun _ _ z => False.elim z
end
section
variable {X : Cx} {st : Stmt} {rest : List Stmt} {t u : TS} {e : Expr} {te : TE} {pos : Pos}
noncomputable def tNext : TS := fun D σ H => D.nx σ H
noncomputable def tSeq (t u : TS) : TS := fun D σ H => t { D with nx := u D } σ H
theorem pss_nil : PSs X [] tNext := fun _ _ σ H _ I h => wpAny_execs_nil ⟨σ, H, I, h⟩
theorem pss_cons (h1 : PS X st t) (h2 : PSs X rest u) : PSs X (st :: rest) (tSeq t u) := by
  intro pins s σ H D I h
  refine wpAny_execs_cons (thn (h1 pins s σ H { D with nx := u D } I h) fun f s1 q => ?_)
  cases f with
  | next =>
    obtain ⟨σ', H', I', q⟩ := q
    exact h2 pins s1 σ' H' D I' q
  | ret v => exact q
  | brk => exact q
  | cont => exact q
theorem pss_one (h1 : PS X st t) : PSs X [st] t := by
  intro pins s σ H D I h
  refine wpAny_execs_cons (thn (h1 pins s σ H D I h) fun f s1 q => ?_)
  cases f with
  | next => exact wpAny_execs_nil q
  | ret v => exact q
  | brk => exact q
  | cont => exact q
theorem Inv.quiet {pins : List (Addr × Obj)} {σ : St} {H : Hp} {s : Shared} (I : Inv X pins σ H s) : interactive X.env = false := by simp [interactive, I.ok.kind]
noncomputable def tDrop (te : TE) : TS := fun D σ H => te σ H fun _ H1 => D.nx σ H1
theorem ps_expr (he : PE X e te) (hs : swapsWith e none pos.line X.env = pure false := by rfl) : PS X (.Expr e pos) (tDrop te) := by
  intro pins s σ H D I h
  exact wpAny_Expr_any (thn (he pins s σ H _ I h) fun v s1 ⟨x, H1, I1, r1, q1⟩ => ⟨σ, H1, I1, q1⟩) I.quiet hs
noncomputable def tRet (te : TE) : TS := fun D σ H => te σ H D.rt
theorem ps_ret (he : PE X e te) : PS X (.Return (some e) pos) (tRet te) := by
  intro pins s σ H D I h
  exact wpAny_Return_some (thn (he pins s σ H _ I h) fun v s1 ⟨x, H1, I1, r1, q1⟩ => ⟨x, σ, H1, I1, r1, q1⟩)
noncomputable def tIfS (c : TT) (t u : TS) : TS := fun D σ H => c σ H fun b H1 => if b = true then t D σ H1 else u D σ H1
theorem ps_if {c : Expr} {a b : List Stmt} {tc : TT} (hc : PT X c tc) (ha : PSs X a t) (hb : PSs X b u) : PS X (.If c a b pos) (tIfS tc t u) := by
  intro pins s σ H D I h
  refine wpAny_If (thn (hc pins s σ H _ I h) fun d s1 ⟨H1, I1, q1⟩ => ?_)
  cases d with
  | true => exact ha pins s1 σ H1 D I1 q1
  | false => exact hb pins s1 σ H1 D I1 q1
noncomputable def tNever : TS := fun _ _ _ => False
theorem pss_never {sts : List Stmt} : PSs X sts tNever := fun _ _ _ _ _ _ h => h.elim
end
noncomputable abbrev TG := V → St → Hp → (St → Hp → Prop) → Prop
noncomputable abbrev TGs := List V → St → Hp → (St → Hp → Prop) → Prop
noncomputable def PG (X : Cx) (target : Expr) (t : TG) : Prop :=
  ∀ (pins : List (Addr × Obj)) (s : Shared) (σ : St) (H : Hp) (v : V) (u : Value) (Q : St → Hp → Prop), Inv X pins σ H s → RelV v u → t v σ H Q →
    wpAny (model X.prog X.w) X.A (assign target X.env u) (fun _ s' => ∃ σ' H', Inv X pins σ' H' s' ∧ Q σ' H') X.xe s
noncomputable def PGs (X : Cx) (ts : List Expr) (t : TGs) : Prop :=
  ∀ (pins : List (Addr × Obj)) (s : Shared) (σ : St) (H : Hp) (vs : List V) (us : List Value) (Q : St → Hp → Prop), Inv X pins σ H s → Vals vs us → t vs σ H Q →
    wpAny (model X.prog X.w) X.A (assignInOrder ((assignEach ts X.env).map (·.2)) us) (fun _ s' => ∃ σ' H', Inv X pins σ' H' s' ∧ Q σ' H') X.xe s
noncomputable abbrev TSet := V → V → V → Hp → (Hp → Prop) → Prop
noncomputable def PSet (X : Cx) (t : TSet) : Prop :=
  ∀ (pins : List (Addr × Obj)) (s : Shared) (σ : St) (H : Hp) (o i v : V) (ov iv u : Value) (Q : Hp → Prop), Inv X pins σ H s → RelV o ov → RelV i iv → RelV v u → t o i v H Q →
    wpAny (model X.prog X.w) X.A (setItem ov iv u) (fun _ s' => ∃ H', Inv X pins σ H' s' ∧ Q H') X.xe s
section
variable {X : Cx} {pos : Pos}
noncomputable def gName (i : Nat) : TG := fun v σ H Q => Q (σ.set i (some v)) H
theorem pg_name {i : Nat} {x : Str} (hN : X.N.Nodup) (hi : X.N[i]? = some x) (hx : Loc X.env.scope x) (hf : X.fn x = true ∨ X.env.scope.names.lookup x = some .local := by first | exact .inl rfl | exact .inr rfl | assumption) : PG X (.Name x pos) (gName i) := by
  intro pins s σ H v u Q I r h
  exact wpAny_assign_Name (store_ok I hN hi hx r (fun s' I' => ⟨_, H, I', h⟩) hf)
noncomputable def gNil : TGs := fun vs σ H Q => vs = [] ∧ Q σ H
noncomputable def gCons (t : TG) (u : TGs) : TGs := fun vs σ H Q => ∃ v r, vs = v :: r ∧ t v σ H fun σ' H' => u r σ' H' Q
theorem pgs_nil : PGs X [] gNil := by
  intro pins s σ H vs us Q I r h
  obtain ⟨e, h⟩ := h
  subst e
  cases r
  exact assignInOrder_nil ⟨σ, H, I, h⟩
theorem pgs_cons {e : Expr} {es : List Expr} {t : TG} {u : TGs} (h1 : PG X e t) (h2 : PGs X es u)
    (hs : (assignEach (e :: es) X.env).map (·.2) = assign e X.env :: (assignEach es X.env).map (·.2) := by rfl) : PGs X (e :: es) (gCons t u) := by
  intro pins s σ H vs us Q I r h
  obtain ⟨v, vr, e1, h⟩ := h
  subst e1
  cases r with
  | cons r rr =>
    rw [hs]
    refine assignInOrder_cons (thn (h1 pins s σ H _ _ _ I r h) fun _ s1 ⟨σ1, H1, I1, q1⟩ => ?_)
    exact h2 pins s1 σ1 H1 _ _ Q I1 rr q1
noncomputable def gTup (K : PySem.W.Frag) (n : Nat) (t : TGs) : TG := fun v σ H Q => ∃ a xs, v = .ref a ∧ SqT K H a xs ∧ xs.length = n ∧ t xs σ H Q
theorem pg_tup {es : List Expr} {k : Nat} {t : TGs} {n : Nat} (hc : X.calm = true) (h : PGs X es t)
    (hn : (assignEach es X.env).length = n := by rfl) (hst : (assignEach es X.env).findIdx? (·.1) = none := by rfl) : PG X (.Tuple es k pos) (gTup X.K n t) := by
  intro pins s σ H v u Q I r hw
  obtain ⟨a, xs, e1, hq, hl, hw⟩ := hw
  subst e1
  cases r
  obtain ⟨its, rv, ht, hz⟩ := I.tuple hq
  refine assign_Tuple_tuple (I.ok.hd hc) ht (by simp [hn, ← hl, rv.length]) hst fun h' hx => ?_
  have I1 : Inv X pins σ H { s with heap := h' } := I.kept (t' := s.toks) fun b o e => hx b o (Nat.ne_of_lt (Heap.lt_size e)) e
  exact h pins _ σ H xs _ Q I1 (by simpa using rv) hw
noncomputable def gSub (to ti : TE) (t : TSet) : TG := fun v σ H Q => to σ H fun o H1 => ti σ H1 fun i H2 => t o i v H2 fun H3 => Q σ H3
theorem pg_sub {o i : Expr} {to ti : TE} {t : TSet} (ho : PE X o to) (hi : PE X i ti) (hs : PSet X t)
    (ha : ∀ v, assign (.Subscript o i pos) X.env v = (do
      let ov ← holding [v] (eval o X.env)
      let iv ← holding [v, ov] (eval i X.env)
      standAt pos
      holding [v, ov, iv] (setItem ov iv v)
      release [v, ov, iv] []) := by intro _; rfl) : PG X (.Subscript o i pos) (gSub to ti t) := by
  intro pins s σ H v u Q I r h
  rw [ha]
  refine wpAny_bind (wpAny_holding (thn (ho pins s σ H _ I h) fun ov s1 ⟨x, H1, I1, r1, q1⟩ => ?_))
  refine wpAny_bind (wpAny_holding (thn (hi pins s1 σ H1 _ I1 q1) fun iv s2 ⟨y, H2, I2, r2, q2⟩ => ?_))
  refine wpAny_bind (wpAny_standAt (wpAny_bind (wpAny_holding (thn (hs pins s2 σ H2 x y v ov iv u _ I2 r1 r2 r q2) fun _ s3 ⟨H3, I3, q3⟩ => ?_))))
  exact wpAny_release ⟨σ, H3, I3, q3⟩
noncomputable def tAsg (te : TE) (g : TG) : TS := fun D σ H => te σ H fun x H1 => g x σ H1 D.nx
theorem ps_asg {tg e : Expr} {te : TE} {g : TG} (he : PE X e te) (hg : PG X tg g) (hs : swapsWithSole [tg] e pos.line X.env = pure false := by rfl) (hw : swappedStores [tg] e X.env = pure none := by rfl)
    (h1 : (assignEach [tg] X.env).map (·.2) = [assign tg X.env] := by rfl) : PS X (.Assign [tg] e pos) (tAsg te g) := by
  intro pins s σ H D I h
  refine wpAny_Assign_stores (thn (he pins s σ H _ I h) fun v s1 ⟨x, H1, I1, r1, q1⟩ => ?_) hs hw
  rw [h1]
  exact thn (hg pins s1 σ H1 x v _ I1 r1 q1) fun _ s2 q => q
theorem ps_set {i : Nat} {x : Str} {e : Expr} {te : TE} {pos' : Pos} (hN : X.N.Nodup) (hi : X.N[i]? = some x) (hx : Loc X.env.scope x) (he : PE X e te) (hs : swapsWith e (some (.Name x pos')) pos.line X.env = pure false := by rfl) (hf : X.fn x = true ∨ X.env.scope.names.lookup x = some .local := by first | exact .inl rfl | exact .inr rfl | assumption) :
    PS X (.Assign [.Name x pos'] e pos) (tAsg te (gName i)) := by
  intro pins s σ H D I h
  refine wpAny_Assign_Name (thn (he pins s σ H _ I h) fun v s1 ⟨y, H1, I1, r1, q1⟩ => ?_) hs
  exact store_ok I1 hN hi hx r1 (fun s2 I2 => ⟨_, H1, I2, q1⟩) hf
end
section
variable {X : Cx} {pos : Pos}
noncomputable def tWhile (c : TT) (tb : TS) : TS := fun D σ H => ∃ W : Nat → St → Hp → Prop, (∃ m, W m σ H) ∧ ∀ m σ H, W m σ H →
  c σ H fun b H1 => if b = true then ∃ N : St → Hp → Prop, (∀ σ' H', N σ' H' → ∃ m', m' < m ∧ W m' σ' H') ∧ tb { D with nx := N, ct := N, bk := D.nx } σ H1 else D.nx σ H1
theorem ps_while {c : Expr} {body : List Stmt} {tc : TT} {tb : TS} (hp : PassesOwn (model X.prog X.w) X.A X.env X.xe) (hc : PT X c tc) (hb : PSs X body tb) : PS X (.While c body [] pos) (tWhile tc tb) := by
  intro pins s σ H D I h
  obtain ⟨W, ⟨m0, w0⟩, turn⟩ := h
  refine wpAny_While (codeAny_whileLoop (fun n s' => ∃ σ' H', Inv X pins σ' H' s' ∧ W n σ' H') ?_ m0 ⟨σ, H, I, w0⟩)
  rintro n s1 ⟨σ1, H1, I1, w1⟩
  refine wpAny_passesOwn hp (thn (hc pins s1 σ1 H1 _ I1 (turn n σ1 H1 w1)) fun b s2 ⟨H2, I2, q2⟩ => ?_)
  cases b with
  | true =>
    obtain ⟨N, hN, q2⟩ := q2
    rw [if_pos rfl]
    refine wpAny_passesOwn hp (thn (hb pins s2 σ1 H2 _ I2 q2) fun f s3 q3 => ?_)
    cases f with
    | next =>
      obtain ⟨σ3, H3, I3, n3⟩ := q3
      obtain ⟨m', hm, w3⟩ := hN σ3 H3 n3
      exact ⟨m', hm, σ3, H3, I3, w3⟩
    | cont =>
      obtain ⟨σ3, H3, I3, n3⟩ := q3
      obtain ⟨m', hm, w3⟩ := hN σ3 H3 n3
      exact ⟨m', hm, σ3, H3, I3, w3⟩
    | brk => exact q3
    | ret v => exact q3
  | false =>
    rw [if_neg Bool.false_ne_true]
    exact wpAny_execs_nil ⟨σ1, H2, I2, q2⟩
end
structure It where
  go : Nat → Hp → Prop
  yld : Nat → Hp → V → Hp → Prop
  stop : Nat → Hp → Prop
noncomputable def FpOk (X : Cx) (pins : List (Addr × Obj)) (H : Hp) (b : Addr) : Prop :=
  H b = none ∧ b ≠ X.env.locals ∧ b ∉ X.fs ∧ (b ∈ X.ex ∨ X.s₀.heap.objs.size ≤ b) ∧ (∀ x c, X.env.cells.lookup x = some c → c ≠ b) ∧ ∀ p ∈ X.pn ++ pins, p.1 ≠ b
theorem Inv.fpOk {X : Cx} {pins : List (Addr × Obj)} {σ : St} {H H' : Hp} {s : Shared} {b : Addr} (I : Inv X pins σ H s) (hb : s.heap.objs.size ≤ b) (hn : H' b = none) : FpOk X pins H' b := by
  refine ⟨hn, Nat.ne_of_gt (Nat.lt_of_lt_of_le I.lt hb), I.nofs hb, .inr (Nat.le_trans I.sz hb), fun x c e z => ?_, fun p hp z => ?_⟩
  · obtain ⟨v, q⟩ := I.cell x c e
    exact absurd (Nat.lt_of_lt_of_le q.lt (by rw [z]; exact hb)) (Nat.lt_irrefl _)
  · exact absurd (Nat.lt_of_lt_of_le (Heap.lt_size (I.pin p hp).1) (by rw [z]; exact hb)) (Nat.lt_irrefl _)
structure Turn (P : Program) (w : World) (K : PySem.W.Frag) (tg : Expr) (J : It) (fp : List Addr) (it : Addr) (tn : Nat → Heap → Prop) : Prop where
  mem : it ∈ fp
  obj : ∀ i h, tn i h → ∀ b ∈ fp, ∃ o, h.get? b = some o ∧ ∀ v, o.data ≠ .cell v
  keep : ∀ i h h', tn i h → (∀ b ∈ fp, ∀ o, h.get? b = some o → h'.get? b = some o) → tn i h'
  item : ∀ (X : Cx), X.prog = P → X.w = w → X.K = K → X.calm = true → ∀ (i : Nat) (pins : List (Addr × Obj)) (s : Shared) (σ : St) (H : Hp) (E : Value → Shared → Prop), Inv X pins σ H s → (∀ b ∈ fp, FpOk X pins H b) → tn i s.heap → J.go i H →
    wpAny (model P w) X.A (pyNext (.ref it)) (fun r s1 => ∃ u, r = some u ∧
      wpAny (model P w) X.A (letOwnedTupleGo tg (.ref it) u) (fun _ s2 => ∃ x H', Inv X pins σ H' s2 ∧ RelV x u ∧ J.yld i H x H' ∧ tn (i + 1) s2.heap ∧ ∀ b ∈ fp, H' b = none) E s1) E s
  done : ∀ (X : Cx), X.prog = P → X.w = w → X.K = K → X.calm = true → ∀ (i : Nat) (pins : List (Addr × Obj)) (s : Shared) (σ : St) (H : Hp) (E : Value → Shared → Prop), Inv X pins σ H s → (∀ b ∈ fp, FpOk X pins H b) → tn i s.heap → J.stop i H →
    wpAny (model P w) X.A (pyNext (.ref it)) (fun r s1 => r = none ∧ Inv X pins σ H s1) E s
  self : ∀ (A : Around) (i : Nat) (s : Shared) (Q : Value → Shared → Prop) (E : Value → Shared → Prop), tn i s.heap → Q (.ref it) s → wpAny (model P w) A (pyIter (.ref it)) Q E s
noncomputable abbrev TI := St → Hp → (It → Hp → Prop) → Prop
noncomputable def PIE (X : Cx) (pins : List (Addr × Obj)) (σ : St) (tg : Expr) (R : It → Hp → Prop) (itv : Value) (s2 : Shared) : Prop :=
  ∃ (it : Addr) (fp : List Addr) (tn : Nat → Heap → Prop) (J : It) (H' : Hp), itv = .ref it ∧ Inv X pins σ H' s2 ∧ Turn X.prog X.w X.K tg J fp it tn ∧ tn 0 s2.heap ∧ (∀ b ∈ fp, FpOk X pins H' b) ∧ R J H'
noncomputable def PI (X : Cx) (tg iter : Expr) (wi : TI) : Prop :=
  ∀ (pins : List (Addr × Obj)) (s : Shared) (σ : St) (H : Hp) (R : It → Hp → Prop), Inv X pins σ H s → wi σ H R →
    wpAny (model X.prog X.w) X.A (eval iter X.env) (fun v s1 => wpAny (model X.prog X.w) X.A (pyIter v) (PIE X pins σ tg R) X.xe s1) X.xe s
theorem go_of {M : Model} {A : Around} {E : Value → Shared → Prop} {s : Shared} {tg : Expr} {it : Addr} {u : Value} {o : Obj} {n : String} {vs : Array Value} {Q : Unit → Shared → Prop} (ho : s.heap.get? it = some o) (hc : o.cls = .type n) (hd : o.data = .fields vs)
    (hn : ["enumerate", "zip", "dict_itemiterator", "dict_reverseitemiterator", "odict_iterator", "itertools.zip_longest", "itertools.pairwise"].contains n = false) (hQ : Q () s) : wpAny M A (letOwnedTupleGo tg (.ref it) u) Q E s := by
  unfold letOwnedTupleGo
  cases tg <;> first
    | exact wpAny_pure hQ
    | (cases u <;> first
        | exact wpAny_pure hQ
        | (refine wpAny_bind (wpAny_load ho ?_)
           rw [hc, hd]
           show wpAny M A (if (["enumerate", "zip", "dict_itemiterator", "dict_reverseitemiterator", "odict_iterator", "itertools.zip_longest", "itertools.pairwise"].contains n && vs[0]? == some (rawInt _)) = true then _ else _) Q E s
           rw [if_neg (by intro h; rw [hn, Bool.false_and] at h; cases h)]
           exact wpAny_pure hQ))
noncomputable def Itl (K : PySem.W.Frag) (a : Addr) : It :=
  ⟨fun i H => ∃ xs x, SqL K H a xs ∧ xs[i]? = some x, fun i H x H' => H' = H ∧ ∀ xs, SqL K H a xs → xs[i]? = some x, fun i H => ∃ xs, SqL K H a xs ∧ xs.length ≤ i⟩
noncomputable def Itr (lo : Int) (n : Nat) : It := ⟨fun i _ => i < n, fun i H x H' => H' = H ∧ x = .int (lo + i), fun i _ => n ≤ i⟩
theorem turn_list {P : Program} {w : World} {K : PySem.W.Frag} {tg : Expr} (a it : Addr) : Turn P w K tg (Itl K a) [it] it (fun i h => h.IsListIter it a i) where
  mem := by simp
  obj := fun i h st b hb => by
    have e : b = it := by simpa using hb
    subst e
    obtain ⟨o, e, c, d⟩ := st
    exact ⟨o, e, fun v z => by rw [d] at z; cases z⟩
  keep := fun i h h' st k => st.at fun o e => k it (by simp) o e
  item := by
    intro X hP hw hK hc i pins s σ H E I hf st hg
    subst hP hw hK
    obtain ⟨xs, x, hq, hx⟩ := hg
    obtain ⟨its, rv, p, hz⟩ := I.list hq
    obtain ⟨u, hu, ru⟩ := rv.get hx
    obtain ⟨f0, f1, f2, f3, f4, f5⟩ := hf it (by simp)
    refine wpAny_pyNext_list_item st p.isList (x := u) (by simpa using hu) fun h' st' sb => ?_
    have I1 : Inv X pins σ H { s with heap := h' } := I.turned (t' := s.toks) (fun b o hb e => (sb.2 b hb).trans e) f0 f1 f3 f4 f5
    obtain ⟨o, e, c, d⟩ := id st'
    exact ⟨u, rfl, go_of (s := { s with heap := h' }) e c d (by decide) ⟨x, H, I1, ru, ⟨rfl, fun ys hy => by rw [I.list_inj hy hq]; exact hx⟩, st', fun b hb => (hf b hb).1⟩⟩
  done := by
    intro X hP hw hK hc i pins s σ H E I hf st hg
    subst hP hw hK
    obtain ⟨xs, hq, hx⟩ := hg
    obtain ⟨its, rv, p, hz⟩ := I.list hq
    obtain ⟨f0, f1, f2, f3, f4, f5⟩ := hf it (by simp)
    have hl := rv.length
    exact wpAny_pyNext_list_end (I.ok.hd hc) st p.isList (by simp; omega) fun h' eb => ⟨rfl, I.turned (t' := s.toks) (fun b o hb e => eb b o hb e) f0 f1 f3 f4 f5⟩
  self := fun _ _ _ _ _ st h => wpAny_pyIter_listiter st h
theorem turn_range {P : Program} {w : World} {K : PySem.W.Frag} {tg : Expr} (it : Addr) (lo : Int) (n : Nat) : Turn P w K tg (Itr lo n) [it] it (fun i h => IsRangeIter h it (lo + (i : Nat) * 1) ((n : Int) - (i : Nat)) 1) where
  mem := by simp
  obj := fun i h st b hb => by
    have e : b = it := by simpa using hb
    subst e
    exact ⟨_, st, fun v z => by
      have z' : Data.fields _ = Data.cell v := z
      cases z'⟩
  keep := fun i h h' st k => k it (by simp) _ st
  item := by
    intro X hP hw hK hc i pins s σ H E I hf st hg
    subst hP hw hK
    obtain ⟨f0, f1, f2, f3, f4, f5⟩ := hf it (by simp)
    have W := Walks.range (prog := X.prog) (w := X.w) (I.ok.hd hc) it lo 1 n
    refine W.item i s _ _ hg st fun v h' tk hv st' kk => ?_
    obtain ⟨t, rfl⟩ := hv
    have I1 : Inv X pins σ H { s with heap := h', toks := tk } := I.turned (fun b o hb e => kk b o (by simpa using hb) e) f0 f1 f3 f4 f5
    refine ⟨_, rfl, go_of (s := { s with heap := h', toks := tk }) (n := "range_iterator") st' rfl rfl (by decide) ⟨.int (lo + i), H, I1, ⟨t, ?_⟩, ⟨rfl, rfl⟩, st', fun b hb => (hf b hb).1⟩⟩
    rw [Int.mul_one]
  done := by
    intro X hP hw hK hc i pins s σ H E I hf st hg
    subst hP hw hK
    obtain ⟨f0, f1, f2, f3, f4, f5⟩ := hf it (by simp)
    exact wpAny_pyNext_range_end (I.ok.hd hc) st (by have : n ≤ i := hg; omega) fun h' eb => ⟨rfl, I.turned (t' := s.toks) (fun b o hb e => eb b o hb e) f0 f1 f3 f4 f5⟩
  self := fun _ _ _ _ _ st h => wpAny_pyIter_rangeiter st h
end L2
namespace L2
open PySem PySem.Spec PyProof.Rows
section
variable {X : Cx} {tg : Expr}
noncomputable def iList (K : PySem.W.Frag) (tl : TE) : TI := fun σ H R => tl σ H fun x H1 => ∃ a, x = .ref a ∧ (∃ xs, SqL K H1 a xs) ∧ R (Itl K a) H1
theorem pi_list {l : Expr} {tl : TE} (hl : PE X l tl) : PI X tg l (iList X.K tl) := by
  intro pins s σ H R I h
  refine thn (hl pins s σ H _ I h) fun v s1 ⟨x, H1, I1, r1, q1⟩ => ?_
  obtain ⟨a, e, ⟨xs, hq⟩, q⟩ := q1
  subst e
  cases r1
  obtain ⟨its, rv, p, hz⟩ := I1.list hq
  refine wpAny_pyIter_list p.isList ?_
  refine ⟨s1.heap.objs.size, [s1.heap.objs.size], _, _, H1, rfl, I1.kept (t' := s1.toks) fun b o e => Heap.get?_push_of_some _ e, turn_list a _, ⟨_, Heap.get?_push_size _ rfl, rfl, rfl⟩, fun b hb => ?_, q⟩
  have e : b = s1.heap.objs.size := by simpa using hb
  subst e
  exact I1.fpOk (Nat.le_refl _) (I1.hok.fresh (Nat.le_refl _))
theorem range_it {pins : List (Addr × Obj)} {σ : St} {H : Hp} {s : Shared} {R : It → Hp → Prop} {E : Value → Shared → Prop} {lo hi : Int} {t u v : Tok} {tk : Nat} (I : Inv X pins σ H s) (h1 : -(2 ^ 62) ≤ lo) (h2 : lo < 2 ^ 62) (h3 : -(2 ^ 62) ≤ hi) (h4 : hi < 2 ^ 62)
    (q : R (Itr lo (hi - lo).toNat) H) : wpAny (model X.prog X.w) X.A (pyIter (.ref s.heap.objs.size)) (PIE X pins σ tg R) E { s with heap := s.heap.push { cls := .type "range", data := .fields #[.int lo t, .int hi u, .int 1 v] }, toks := tk } := by
  refine wpAny_pyIter_range (IsRange.new ..) (small_one h1 h2 h3 h4) ?_
  have I1 : Inv X pins σ H { s with heap := s.heap.push { cls := .type "range", data := .fields #[.int lo t, .int hi u, .int 1 v] }, toks := tk } := I.kept fun b o e => Heap.get?_push_of_some _ e
  refine ⟨(s.heap.push { cls := .type "range", data := .fields #[.int lo t, .int hi u, .int 1 v] }).objs.size, [(s.heap.push { cls := .type "range", data := .fields #[.int lo t, .int hi u, .int 1 v] }).objs.size], _, _, H, rfl,
    I1.kept (t' := tk) fun b o e => Heap.get?_push_of_some _ e, turn_range _ lo (hi - lo).toNat, ?_, fun b hb => ?_, q⟩
  · have e1 : lo + ((0 : Nat) : Int) * 1 = lo := by simp
    have e2 : (((hi - lo).toNat : Nat) : Int) - ((0 : Nat) : Int) = Builtin.Range.rangeSize lo hi 1 := by rw [rangeSize_one]; split <;> omega
    show IsRangeIter _ _ (lo + ((0 : Nat) : Int) * 1) ((((hi - lo).toNat : Nat) : Int) - ((0 : Nat) : Int)) 1
    rw [e1, e2]
    exact Heap.get?_push_size _ rfl
  · have e : b = (s.heap.push { cls := .type "range", data := .fields #[.int lo t, .int hi u, .int 1 v] }).objs.size := by simpa using hb
    subst e
    exact I1.fpOk (Nat.le_refl _) (I1.hok.fresh (Nat.le_refl _))
noncomputable def iRng1 (ta : TA) : TI := fun σ H R => ta σ H fun vs H1 => ∃ j : Int, vs = [.int j] ∧ -(2 ^ 62) ≤ j ∧ j < 2 ^ 62 ∧ R (Itr 0 j.toNat) H1
theorem pi_range1 {a : Expr} {ta : TA} {p pos : Pos} (hg : Gl X "range") (hm : X.mg "range" = none) (ha : PA X [a] ta) (hs : starEach [a] X.env = [(false, eval a X.env)] := by rfl) : PI X tg (.Call (.Name "range" p) [a] [] pos) (iRng1 ta) := by
  intro pins s σ H R I h
  refine Call_ (ld_blt I hg hm boot_range (PyProof.Rows.callWith_type1 (thn (ha pos pins s σ H _ I h) fun us s1 ⟨vs, H1, I1, r1, q1⟩ => ?_) hs rfl))
  obtain ⟨j, e, q1, q2, q⟩ := q1
  subst e
  cases r1 with
  | cons r rr =>
    cases rr
    obtain ⟨t, rfl⟩ := r
    exact call_range_1 (range_it I1 (by omega) (by omega) q1 q2 (by simpa using q))
noncomputable def tFor (wi : TI) (g : TG) (tb : TS) : TS := fun D σ H => wi σ H fun J H1 => ∃ W : Nat → Nat → St → Hp → Prop, (∃ m, W 0 m σ H1) ∧ ∀ i m σ H, W i m σ H →
  (J.stop i H ∧ D.nx σ H) ∨ (J.go i H ∧ ∃ N : St → Hp → Prop, (∀ σ' H', N σ' H' → ∃ m', m' < m ∧ W (i + 1) m' σ' H') ∧ ∀ x H', J.yld i H x H' → g x σ H' fun σ2 H2 => tb { D with nx := N, ct := N, bk := D.nx } σ2 H2)
noncomputable def pinsAt (fp : List Addr) (h : Heap) : List (Addr × Obj) := fp.filterMap fun b => (h.get? b).map fun o => (b, o)
theorem mem_pinsAt {fp : List Addr} {h : Heap} {b : Addr} {o : Obj} (hb : b ∈ fp) (e : h.get? b = some o) : (b, o) ∈ pinsAt fp h := List.mem_filterMap.mpr ⟨b, hb, by rw [e]; rfl⟩
theorem of_pinsAt {fp : List Addr} {h : Heap} {p : Addr × Obj} (hp : p ∈ pinsAt fp h) : p.1 ∈ fp ∧ h.get? p.1 = some p.2 := by
  obtain ⟨b, hb, e⟩ := List.mem_filterMap.mp hp
  cases q : h.get? b with
  | none => rw [q] at e; cases e
  | some o =>
    rw [q] at e
    have e' : (b, o) = p := Option.some.inj e
    subst e'
    exact ⟨hb, q⟩
theorem Inv.pinned {pins : List (Addr × Obj)} {σ : St} {H : Hp} {s : Shared} {fp : List Addr} (I : Inv X pins σ H s) (hf : ∀ b ∈ fp, FpOk X pins H b) (ho : ∀ b ∈ fp, ∃ o, s.heap.get? b = some o ∧ ∀ v, o.data ≠ .cell v) : Inv X (pins ++ pinsAt fp s.heap) σ H s :=
  I.pins_of fun p hp => (List.mem_append.mp hp).elim (fun z => I.pin p (List.mem_append_right _ z)) fun z => by
    obtain ⟨hb, e⟩ := of_pinsAt z
    obtain ⟨f0, f1, f2, _⟩ := hf p.1 hb
    obtain ⟨o, e', d⟩ := ho p.1 hb
    rw [e] at e'; cases e'
    exact ⟨e, f0, f1, f2, d⟩
theorem Inv.unpinned {pins pl : List (Addr × Obj)} {σ : St} {H : Hp} {s : Shared} (I : Inv X (pins ++ pl) σ H s) : Inv X pins σ H s := I.pins_of fun p hp => I.pin p (List.mem_append_right _ (List.mem_append_left _ hp))
theorem ps_for {iter : Expr} {body : List Stmt} {wi : TI} {g : TG} {tb : TS} {pos : Pos} (hp : PassesOwn (model X.prog X.w) X.A X.env X.xe) (hc : X.calm = true) (hi : PI X tg iter wi) (hg : PG X tg g) (hb : PSs X body tb)
    (hs : ∀ x, foldedSetIterable iter X.env x = pure x := by intro _; rfl) : PS X (.For tg iter body [] pos) (tFor wi g tb) := by
  intro pins s σ H D I h
  refine wpAny_For (thn (hi pins s σ H _ I h) fun v s1 h1 => thn h1 fun itv s2 h2 => ?_) hs
  obtain ⟨it, fp, tn, J, H2, e, I2, T, st2, f2, W, ⟨m0, w0⟩, turn⟩ := h2
  subst e
  -- what stays true of the iterator's objects through the loop
  have stat : ∀ {H' : Hp}, (∀ b ∈ fp, H' b = none) → ∀ b ∈ fp, FpOk X pins H' b := fun hn b hb => ⟨hn b hb, (f2 b hb).2⟩
  refine codeAny_forLoop_any (fun n s' => ∃ i σ' H', Inv X pins σ' H' s' ∧ tn i s'.heap ∧ (∀ b ∈ fp, H' b = none) ∧ W i n σ' H') ?_ m0 ⟨0, σ, H2, I2, st2, fun b hb => (f2 b hb).1, w0⟩
  rintro n s3 ⟨i, σ3, H3, I3, st3, fr3, w3⟩
  rcases turn i n σ3 H3 w3 with ⟨stop, qn⟩ | ⟨go, N, hN, step⟩
  · refine wpAny_passesOwn hp (thn (T.done X rfl rfl rfl hc i pins s3 σ3 H3 X.xe I3 (stat fr3) st3 stop) fun r s4 ⟨hr, I4⟩ => ?_)
    subst hr
    exact wpAny_execs_nil ⟨σ3, H3, I4, qn⟩
  · refine wpAny_passesOwn hp (thn (T.item X rfl rfl rfl hc i pins s3 σ3 H3 X.xe I3 (stat fr3) st3 go) fun r s4 ⟨u, hr, h4⟩ => ?_)
    subst hr
    refine wpAny_passesOwn hp (thn h4 fun _ s5 ⟨x, H5, I5, r5, y5, st5, fr5⟩ => ?_)
    have I5' := I5.pinned (stat fr5) (T.obj _ _ st5)
    refine wpAny_passesOwn hp (thn (hg _ s5 σ3 H5 x u _ I5' r5 (step x H5 y5)) fun _ s6 ⟨σ6, H6, I6, q6⟩ => ?_)
    refine wpAny_passesOwn hp (thn (hb _ s6 σ6 H6 _ I6 q6) fun f s7 q7 => ?_)
    have again : ∀ {σ7 : St} {H7 : Hp}, Inv X (pins ++ pinsAt fp s5.heap) σ7 H7 s7 → N σ7 H7 → ∃ m, m < n ∧ ∃ i σ' H', Inv X pins σ' H' s7 ∧ tn i s7.heap ∧ (∀ b ∈ fp, H' b = none) ∧ W i m σ' H' := fun {σ7 H7} I7 n7 => by
      obtain ⟨m', hm, w7⟩ := hN σ7 H7 n7
      refine ⟨m', hm, i + 1, σ7, H7, I7.unpinned, T.keep _ _ _ st5 fun b hb o e => (I7.pin (b, o) (List.mem_append_right _ (List.mem_append_right _ (mem_pinsAt hb e)))).1, fun b hb => ?_, w7⟩
      obtain ⟨o, e, d⟩ := T.obj _ _ st5 b hb
      exact (I7.pin (b, o) (List.mem_append_right _ (List.mem_append_right _ (mem_pinsAt hb e)))).2.1
    cases f with
    | next => obtain ⟨σ7, H7, I7, n7⟩ := q7; exact again I7 n7
    | cont => obtain ⟨σ7, H7, I7, n7⟩ := q7; exact again I7 n7
    | brk => obtain ⟨σ7, H7, I7, q7⟩ := q7; exact ⟨σ7, H7, I7.unpinned, q7⟩
    | ret v => obtain ⟨x7, σ7, H7, I7, r7, q7⟩ := q7; exact ⟨x7, σ7, H7, I7.unpinned, r7, q7⟩
end
theorem for_list {K : PySem.W.Frag} {a : Addr} {xs : List V} {g : TG} {tb : TS} {D : Ends} {σ : St} {H : Hp} (Pv : Nat → St → Hp → Prop) (h0 : Pv 0 σ H) (hl : ∀ i σ H, i ≤ xs.length → Pv i σ H → SqL K H a xs)
    (hs : ∀ i x σ H, xs[i]? = some x → Pv i σ H → g x σ H fun σ2 H2 => tb { D with nx := Pv (i + 1), ct := Pv (i + 1), bk := D.nx } σ2 H2) (hd : ∀ σ H, Pv xs.length σ H → D.nx σ H) :
    ∃ W : Nat → Nat → St → Hp → Prop, (∃ m, W 0 m σ H) ∧ ∀ i m σ H, W i m σ H →
      ((Itl K a).stop i H ∧ D.nx σ H) ∨ ((Itl K a).go i H ∧ ∃ N : St → Hp → Prop, (∀ σ' H', N σ' H' → ∃ m', m' < m ∧ W (i + 1) m' σ' H') ∧ ∀ x H', (Itl K a).yld i H x H' → g x σ H' fun σ2 H2 => tb { D with nx := N, ct := N, bk := D.nx } σ2 H2) := by
  refine ⟨fun i m σ H => m = xs.length - i ∧ i ≤ xs.length ∧ Pv i σ H, ⟨xs.length, by simp, Nat.zero_le _, h0⟩, ?_⟩
  rintro i m σ H ⟨rfl, hi, p⟩
  have q := hl i σ H hi p
  by_cases hlt : i < xs.length
  · refine .inr ⟨⟨xs, xs[i], q, by simp [hlt]⟩, Pv (i + 1), fun σ' H' p' => ⟨xs.length - (i + 1), by omega, rfl, hlt, p'⟩, fun x H' y => ?_⟩
    obtain ⟨e, y⟩ := y
    subst e
    exact hs i x σ _ (y xs q) p
  · have e : i = xs.length := by omega
    subst e
    exact .inl ⟨⟨xs, q, Nat.le_refl _⟩, hd σ H p⟩
theorem for_range {lo : Int} {n : Nat} {g : TG} {tb : TS} {D : Ends} {σ : St} {H : Hp} (Pv : Nat → St → Hp → Prop) (h0 : Pv 0 σ H)
    (hs : ∀ i σ H, i < n → Pv i σ H → g (.int (lo + i)) σ H fun σ2 H2 => tb { D with nx := Pv (i + 1), ct := Pv (i + 1), bk := D.nx } σ2 H2) (hd : ∀ σ H, Pv n σ H → D.nx σ H) :
    ∃ W : Nat → Nat → St → Hp → Prop, (∃ m, W 0 m σ H) ∧ ∀ i m σ H, W i m σ H →
      ((Itr lo n).stop i H ∧ D.nx σ H) ∨ ((Itr lo n).go i H ∧ ∃ N : St → Hp → Prop, (∀ σ' H', N σ' H' → ∃ m', m' < m ∧ W (i + 1) m' σ' H') ∧ ∀ x H', (Itr lo n).yld i H x H' → g x σ H' fun σ2 H2 => tb { D with nx := N, ct := N, bk := D.nx } σ2 H2) := by
  refine ⟨fun i m σ H => m = n - i ∧ i ≤ n ∧ Pv i σ H, ⟨n, by simp, Nat.zero_le _, h0⟩, ?_⟩
  rintro i m σ H ⟨rfl, hi, p⟩
  by_cases hlt : i < n
  · refine .inr ⟨hlt, Pv (i + 1), fun σ' H' p' => ⟨n - (i + 1), by omega, rfl, hlt, p'⟩, fun x H' y => ?_⟩
    obtain ⟨e, y⟩ := y
    subst e y
    exact hs i σ _ hlt p
  · have e : i = n := by omega
    subst e
    exact .inl ⟨Nat.le_refl _, hd σ H p⟩
end L2
namespace L2
open PySem PySem.Spec PyProof.Rows
noncomputable abbrev R2 := V → V → Hp → VK → Prop
noncomputable def OpR (X : Cx) (f : Value → Value → Sem Value) (r : R2) : Prop :=
  ∀ (pins : List (Addr × Obj)) (s : Shared) (σ : St) (H : Hp) (x y : V) (v u : Value) (Q : VK), Inv X pins σ H s → RelV x v → RelV y u → r x y H Q →
    wpAny (model X.prog X.w) X.A (f v u) (EP X pins σ Q) X.xe s
noncomputable def UnR (X : Cx) (f : Value → Sem Value) (r : V → Hp → VK → Prop) : Prop :=
  ∀ (pins : List (Addr × Obj)) (s : Shared) (σ : St) (H : Hp) (x : V) (v : Value) (Q : VK), Inv X pins σ H s → RelV x v → r x H Q →
    wpAny (model X.prog X.w) X.A (f v) (EP X pins σ Q) X.xe s
noncomputable def CallR (X : Cx) (f : Value) (r : List V → Hp → VK → Prop) : Prop :=
  ∀ (pins : List (Addr × Obj)) (s : Shared) (σ : St) (H : Hp) (xs : List V) (us : List Value) (Q : VK), Inv X pins σ H s → Vals xs us → r xs H Q →
    wpAny (model X.prog X.w) X.A (call f us) (EP X pins σ Q) X.xe s
noncomputable def tOp (r : R2) (ta tb : TE) : TE := fun σ H Q => ta σ H fun x H1 => tb σ H1 fun y H2 => r x y H2 Q
noncomputable def tUn (r : V → Hp → VK → Prop) (ta : TE) : TE := fun σ H Q => ta σ H fun x H1 => r x H1 Q
noncomputable def rI (C : Int → Int → Prop) (g : Int → Int → V) : R2 := fun x y H Q => ∃ i j, x = .int i ∧ y = .int j ∧ C i j ∧ Q (g i j) H
noncomputable def rI0 (g : Int → Int → V) : R2 := fun x y H Q => ∃ i j, x = .int i ∧ y = .int j ∧ Q (g i j) H
noncomputable def rU (g : Int → V) : V → Hp → VK → Prop := fun x H Q => ∃ i, x = .int i ∧ Q (g i) H
section
variable {X : Cx} {a b c : Expr} {ta tb tc : TE} {pos : Pos}
theorem binT (ha : PE X a ta) (hb : PE X b tb) {pins : List (Addr × Obj)} {s : Shared} {σ : St} {H : Hp} {R : V → V → Hp → Prop} (I : Inv X pins σ H s)
    (h : ta σ H fun x H1 => tb σ H1 fun y H2 => R x y H2) {Q : Value → Shared → Prop} {f : Value → Value → Sem Value}
    (hf : ∀ v u s2 x y H2, Inv X pins σ H2 s2 → RelV x v → RelV y u → R x y H2 → wpAny (model X.prog X.w) X.A (f v u) Q X.xe s2) :
    wpAny (model X.prog X.w) X.A (eval a X.env) (fun v s₁ => wpAny (model X.prog X.w) X.A (eval b X.env) (fun u s₂ => wpAny (model X.prog X.w) X.A (f v u) Q X.xe s₂) X.xe s₁) X.xe s := by
  refine thn (ha pins s σ H _ I h) fun v s1 ⟨x, H1, I1, r1, q1⟩ => ?_
  refine thn (hb pins s1 σ H1 _ I1 q1) fun u s2 ⟨y, H2, I2, r2, q2⟩ => ?_
  exact hf v u s2 x y H2 I2 r1 r2 q2
theorem pe_op {op : Operator} {r : R2} (ho : OpR X (binaryOp op) r) (ha : PE X a ta) (hb : PE X b tb) : PE X (.BinOp a op b pos) (tOp r ta tb) := by
  intro pins s σ H Q I h
  exact wpAny_BinOp (binT ha hb I h fun v u s2 x y H2 I2 rx ry q => ho pins s2 σ H2 x y v u Q I2 rx ry q)
theorem pe_un {op : UnaryOp} {r : V → Hp → VK → Prop} (ho : UnR X (unaryOp op) r) (ha : PE X a ta) : PE X (.UnaryOp op a pos) (tUn r ta) := by
  intro pins s σ H Q I h
  exact UnaryOp_ (thn (ha pins s σ H _ I h) fun v s1 ⟨x, H1, I1, r1, q1⟩ => ho pins s1 σ H1 x v Q I1 r1 q1)
theorem opI {f : Value → Value → Sem Value} {C : Int → Int → Prop} {g : Int → Int → Int}
    (rule : ∀ (i j : Int) (t u : Tok) (s : Shared) (Q : Value → Shared → Prop) (E : Value → Shared → Prop), C i j → Q (.int (g i j) s.toks) { s with toks := s.toks + 1 } → wpAny (model X.prog X.w) X.A (f (.int i t) (.int j u)) Q E s) :
    OpR X f (rI C fun i j => .int (g i j)) := by
  intro pins s σ H x y v u Q I rx ry h
  obtain ⟨i, j, rfl, rfl, hc, q⟩ := h
  obtain ⟨t, rfl⟩ := rx
  obtain ⟨t', rfl⟩ := ry
  exact rule i j t t' s _ _ hc ⟨.int (g i j), H, I.tok _, ⟨_, rfl⟩, q⟩
theorem opI0 {f : Value → Value → Sem Value} {g : Int → Int → Int}
    (rule : ∀ (i j : Int) (t u : Tok) (s : Shared) (Q : Value → Shared → Prop) (E : Value → Shared → Prop), Q (.int (g i j) s.toks) { s with toks := s.toks + 1 } → wpAny (model X.prog X.w) X.A (f (.int i t) (.int j u)) Q E s) :
    OpR X f (rI0 fun i j => .int (g i j)) := by
  intro pins s σ H x y v u Q I rx ry h
  obtain ⟨i, j, rfl, rfl, q⟩ := h
  obtain ⟨t, rfl⟩ := rx
  obtain ⟨t', rfl⟩ := ry
  exact rule i j t t' s _ _ ⟨.int (g i j), H, I.tok _, ⟨_, rfl⟩, q⟩
theorem opB0 {f : Value → Value → Sem Value} {g : Int → Int → Bool}
    (rule : ∀ (i j : Int) (t u : Tok) (s : Shared) (Q : Value → Shared → Prop) (E : Value → Shared → Prop), Q (.bool (g i j)) s → wpAny (model X.prog X.w) X.A (f (.int i t) (.int j u)) Q E s) :
    OpR X f (rI0 fun i j => .bl (g i j)) := by
  intro pins s σ H x y v u Q I rx ry h
  obtain ⟨i, j, rfl, rfl, q⟩ := h
  obtain ⟨t, rfl⟩ := rx
  obtain ⟨t', rfl⟩ := ry
  exact rule i j t t' s _ _ ⟨.bl (g i j), H, I, rfl, q⟩
noncomputable def CPow (i j : Int) : Prop := 0 ≤ j ∧ j ≤ 1000000 ∧ i.natAbs < 2 ^ 64
noncomputable def CMul (i j : Int) : Prop := (-(2 ^ 64) < i ∧ i < 2 ^ 64) ∨ (-(2 ^ 64) < j ∧ j < 2 ^ 64)
theorem CMul.ok {i j : Int} (h : CMul i j) : IntMulOk i j := by
  rcases h with ⟨h1, h2⟩ | ⟨h1, h2⟩
  · exact .of_left (intBits_le_64 h1 h2)
  · exact .of_right (intBits_le_64 h1 h2)
theorem op_add : OpR X (binaryOp .Add) (rI0 fun i j => .int (i + j)) := opI0 fun _ _ _ _ _ _ _ q => add_int q
theorem op_sub : OpR X (binaryOp .Sub) (rI0 fun i j => .int (i - j)) := opI0 fun _ _ _ _ _ _ _ q => sub_int q
theorem op_mul : OpR X (binaryOp .Mult) (rI CMul fun i j => .int (i * j)) := opI fun _ _ _ _ _ _ _ hc q => mul_int q hc.ok
theorem op_mod : OpR X (binaryOp .Mod) (rI (fun _ j => 0 < j) fun i j => .int (i % j)) := opI fun i j _ _ _ _ _ hc q => by
  have h1 : (0 : Int) < j := hc
  exact mod_int' (by omega) (by rw [Int.fmod_eq_emod_of_nonneg i (by omega)]; exact q)
theorem op_pow : OpR X (binaryOp .Pow) (rI CPow fun i j => .int (i ^ j.toNat)) := opI fun _ _ _ _ _ _ _ hc q => pow_int_small hc.1 hc.2.1 hc.2.2 q
theorem unI {f : Value → Sem Value} {g : Int → Int}
    (rule : ∀ (i : Int) (t : Tok) (s : Shared) (Q : Value → Shared → Prop) (E : Value → Shared → Prop), Q (.int (g i) s.toks) { s with toks := s.toks + 1 } → wpAny (model X.prog X.w) X.A (f (.int i t)) Q E s) :
    UnR X f (rU fun i => .int (g i)) := by
  intro pins s σ H x v Q I rx h
  obtain ⟨i, rfl, q⟩ := h
  obtain ⟨t, rfl⟩ := rx
  exact rule i t s _ _ ⟨.int (g i), H, I.tok _, ⟨_, rfl⟩, q⟩
theorem un_neg : UnR X (unaryOp .USub) (rU fun i => .int (-i)) := unI fun _ _ _ _ _ q => neg_int q
end
noncomputable def scal : V → V → Bool
  | .non, .non => true | .non, .int _ => true | .int _, .non => true | .non, .bl _ => true | .bl _, .non => true | .non, .str _ => true | .str _, .non => true
  | .int _, .int _ => true | .bl _, .bl _ => true | .str _, .str _ => true | .byt _, .byt _ => true
  | .int _, .str _ => true | .str _, .int _ => true | .bl _, .str _ => true | .str _, .bl _ => true
  | _, _ => false
noncomputable def rEq : R2 := fun x y H Q => scal x y = true ∧ Q (.bl (decide (x = y))) H
noncomputable def rNe : R2 := fun x y H Q => scal x y = true ∧ Q (.bl (!decide (x = y))) H
theorem dec_int {i j : Int} : decide (V.int i = V.int j) = (i == j) := by
  rw [Bool.eq_iff_iff]
  simp
theorem dec_bl {i j : Bool} : decide (V.bl i = V.bl j) = (i == j) := by
  rw [Bool.eq_iff_iff]
  simp
theorem dec_str {i j : Str} : decide (V.str i = V.str j) = (i == j) := by
  rw [Bool.eq_iff_iff]
  simp
theorem dec_byt {i j : Array UInt8} : decide (V.byt i = V.byt j) = (i.toList == j.toList) := by
  rw [Bool.eq_iff_iff]
  cases i
  cases j
  simp
section
variable {X : Cx} {a b c : Expr} {ta tb tc : TE} {pos : Pos}
theorem fin_bl {pins : List (Addr × Obj)} {σ : St} {H : Hp} {s : Shared} {Q : VK} {k k' : Bool} (I : Inv X pins σ H s) (q : Q (.bl k) H) (e : k = k') : EP X pins σ Q (.bool k') s := by
  subst e
  exact ⟨.bl k, H, I, rfl, q⟩
theorem op_eq : OpR X (compareOp .Eq) rEq := by
  intro pins s σ H x y v u Q I rx ry h
  obtain ⟨hs, q⟩ := h
  cases x with
  | non =>
    cases rx
    cases y with
    | non => cases ry; exact PySem.EqNone.eq_none_none (fin_bl I q (by simp))
    | bl j => cases ry; exact PySem.EqNone.eq_none_bool (fin_bl I q (by simp))
    | int j => obtain ⟨t', rfl⟩ := ry; exact PySem.EqNone.eq_none_int (fin_bl I q (by simp))
    | str j => obtain ⟨t', rfl⟩ := ry; exact PySem.EqNone.eq_none_str (fin_bl I q (by simp))
    | _ => exact absurd (show false = true from hs) Bool.false_ne_true
  | bl i =>
    cases rx
    cases y with
    | non => cases ry; exact PySem.EqNone.eq_bool_none (fin_bl I q (by simp))
    | bl j => cases ry; exact eq_bool (fin_bl I q dec_bl)
    | str j => obtain ⟨t', rfl⟩ := ry; exact PySem.EqMixed.eq_bool_str (fin_bl I q (by simp))
    | _ => exact absurd (show false = true from hs) Bool.false_ne_true
  | int i =>
    obtain ⟨t, rfl⟩ := rx
    cases y with
    | non => cases ry; exact PySem.EqNone.eq_int_none (fin_bl I q (by simp))
    | int j => obtain ⟨t', rfl⟩ := ry; exact eq_int (fin_bl I q dec_int)
    | str j => obtain ⟨t', rfl⟩ := ry; exact PySem.EqMixed.eq_int_str (fin_bl I q (by simp))
    | _ => exact absurd (show false = true from hs) Bool.false_ne_true
  | str i =>
    obtain ⟨t, rfl⟩ := rx
    cases y with
    | non => cases ry; exact PySem.EqNone.eq_str_none (fin_bl I q (by simp))
    | bl j => cases ry; exact PySem.EqMixed.eq_str_bool (fin_bl I q (by simp))
    | int j => obtain ⟨t', rfl⟩ := ry; exact PySem.EqMixed.eq_str_int (fin_bl I q (by simp))
    | str j => obtain ⟨t', rfl⟩ := ry; exact eq_str (fin_bl I q dec_str)
    | _ => exact absurd (show false = true from hs) Bool.false_ne_true
  | byt i =>
    obtain ⟨t, rfl⟩ := rx
    cases y with
    | byt j => obtain ⟨t', rfl⟩ := ry; exact PySem.W.eq_bytes (fin_bl I q dec_byt)
    | _ => exact absurd (show false = true from hs) Bool.false_ne_true
  | _ => cases y <;> exact absurd (show false = true from hs) Bool.false_ne_true
theorem op_ne : OpR X (compareOp .NotEq) rNe := by
  intro pins s σ H x y v u Q I rx ry h
  obtain ⟨hs, q⟩ := h
  cases x with
  | non =>
    cases rx
    cases y with
    | non => cases ry; exact PySem.EqNone.ne_none_none (fin_bl I q (by simp))
    | bl j => cases ry; exact PySem.EqNone.ne_none_bool (fin_bl I q (by simp))
    | int j => obtain ⟨t', rfl⟩ := ry; exact PySem.EqNone.ne_none_int (fin_bl I q (by simp))
    | str j => obtain ⟨t', rfl⟩ := ry; exact PySem.EqNone.ne_none_str (fin_bl I q (by simp))
    | _ => exact absurd (show false = true from hs) Bool.false_ne_true
  | bl i =>
    cases rx
    cases y with
    | non => cases ry; exact PySem.EqNone.ne_bool_none (fin_bl I q (by simp))
    | bl j => cases ry; exact ne_bool (fin_bl I q (congrArg not dec_bl))
    | str j => obtain ⟨t', rfl⟩ := ry; exact PySem.EqMixed.ne_bool_str (fin_bl I q (by simp))
    | _ => exact absurd (show false = true from hs) Bool.false_ne_true
  | int i =>
    obtain ⟨t, rfl⟩ := rx
    cases y with
    | non => cases ry; exact PySem.EqNone.ne_int_none (fin_bl I q (by simp))
    | int j => obtain ⟨t', rfl⟩ := ry; exact ne_int (fin_bl I q (congrArg not dec_int))
    | str j => obtain ⟨t', rfl⟩ := ry; exact PySem.EqMixed.ne_int_str (fin_bl I q (by simp))
    | _ => exact absurd (show false = true from hs) Bool.false_ne_true
  | str i =>
    obtain ⟨t, rfl⟩ := rx
    cases y with
    | non => cases ry; exact PySem.EqNone.ne_str_none (fin_bl I q (by simp))
    | bl j => cases ry; exact PySem.EqMixed.ne_str_bool (fin_bl I q (by simp))
    | int j => obtain ⟨t', rfl⟩ := ry; exact PySem.EqMixed.ne_str_int (fin_bl I q (by simp))
    | str j => obtain ⟨t', rfl⟩ := ry; exact ne_str (fin_bl I q (congrArg not dec_str))
    | _ => exact absurd (show false = true from hs) Bool.false_ne_true
  | byt i =>
    obtain ⟨t, rfl⟩ := rx
    cases y with
    | byt j => obtain ⟨t', rfl⟩ := ry; exact PySem.W.ne_bytes (fin_bl I q (congrArg not dec_byt))
    | _ => exact absurd (show false = true from hs) Bool.false_ne_true
  | _ => cases y <;> exact absurd (show false = true from hs) Bool.false_ne_true
theorem op_lt : OpR X (compareOp .Lt) (rI0 fun i j => .bl (decide (i < j))) := opB0 fun _ _ _ _ _ _ _ q => lt_int q
theorem op_le : OpR X (compareOp .LtE) (rI0 fun i j => .bl (decide (i ≤ j))) := opB0 fun _ _ _ _ _ _ _ q => le_int q
theorem op_gt : OpR X (compareOp .Gt) (rI0 fun i j => .bl (decide (j < i))) := opB0 fun _ _ _ _ _ _ _ q => gt_int q
theorem op_ge : OpR X (compareOp .GtE) (rI0 fun i j => .bl (decide (j ≤ i))) := opB0 fun _ _ _ _ _ _ _ q => ge_int q
theorem nomark (b : Expr) {op : CmpOp} (h : op ≠ .In := by decide) (h2 : op ≠ .NotIn := by decide) : behindInMarks op b = false := by
  have e1 : (op == CmpOp.In) = false := by cases op <;> first | rfl | exact absurd rfl h
  have e2 : (op == CmpOp.NotIn) = false := by cases op <;> first | rfl | exact absurd rfl h2
  cases b <;> simp [behindInMarks, e1, e2]
theorem pe_cmpR {op : CmpOp} {r : R2} (ho : OpR X (compareOp op) r) (ha : PE X a ta) (hb : PE X b tb) (hm : behindInMarks op b = false) : PE X (.Compare a [op] [b] pos) (tOp r ta tb) := by
  intro pins s σ H Q I h
  exact wpAny_Compare1 (binT ha hb I h fun v u s2 x y H2 I2 rx ry q => ho pins s2 σ H2 x y v u Q I2 rx ry q) hm
noncomputable def tTest (t : TE) : TT := fun σ H Q => t σ H fun x H' => ∃ k, x = .bl k ∧ Q k H'
theorem pt_cmpR {op : CmpOp} {r : R2} (ho : OpR X (compareOp op) r) (ha : PE X a ta) (hb : PE X b tb) (hm : behindInMarks op b = false) : PT X (.Compare a [op] [b] pos) (tTest (tOp r ta tb)) := by
  intro pins s σ H Q I h
  refine wpAny_isTrue_Compare1 (thn (ha pins s σ H _ I h) fun v s1 ⟨x, H1, I1, r1, q1⟩ => thn (hb pins s1 σ H1 _ I1 q1) fun u s2 ⟨y, H2, I2, r2, q2⟩ =>
    thn (ho pins s2 σ H2 x y v u _ I2 r1 r2 q2) fun c s3 ⟨z, H3, I3, r3, k, e, q3⟩ => ?_) hm
  subst e
  cases r3
  exact wpAny_truthy_bool ⟨H3, I3, q3⟩
noncomputable def tChain (r r' : R2) (ta tb tc : TE) : TE := fun σ H Q => ta σ H fun x H1 => tb σ H1 fun y H2 => r x y H2 fun z H3 => ∃ k, z = .bl k ∧
  (if k = true then tc σ H3 fun w' H4 => r' y w' H4 Q else Q (.bl false) H3)
theorem pe_chain {op op' : CmpOp} {r r' : R2} (ho : OpR X (compareOp op) r) (ho' : OpR X (compareOp op') r') (ha : PE X a ta) (hb : PE X b tb) (hc : PE X c tc)
    (hm : lastMarks [op, op'] [b, c] = false := by with_unfolding_all rfl) : PE X (.Compare a [op, op'] [b, c] pos) (tChain r r' ta tb tc) := by
  intro pins s σ H Q I h
  refine Compare_chain (thn (ha pins s σ H _ I h) fun v s1 ⟨x, H1, I1, r1, q1⟩ => chain_link (thn (hb pins s1 σ H1 _ I1 q1) fun u s2 ⟨y, H2, I2, r2, q2⟩ =>
    thn (ho pins s2 σ H2 x y v u _ I2 r1 r2 q2) fun d s3 ⟨z, H3, I3, r3, k, e, q3⟩ => ?_)) hm
  subst e
  cases r3
  refine wpAny_truthy_bool ?_
  cases k with
  | false => exact ite_ff ⟨.bl false, H3, I3, rfl, q3⟩
  | true => exact ite_tt (chain_last (thn (hc pins s3 σ H3 _ I3 q3) fun w' s4 ⟨z', H4, I4, r4, q4⟩ => ho' pins s4 σ H4 y z' u w' Q I4 r2 r4 q4))
theorem line63 : (sizeLine : Nat) < 2 ^ 63 := by rw [sizeLine_eq]; decide
theorem vals1 {x : V} {us : List Value} (r : Vals [x] us) : ∃ u, us = [u] ∧ RelV x u := by
  cases r with
  | cons r1 r2 => cases r2; exact ⟨_, rfl, r1⟩
theorem vals2 {x y : V} {us : List Value} (r : Vals [x, y] us) : ∃ u w', us = [u, w'] ∧ RelV x u ∧ RelV y w' := by
  cases r with
  | cons r1 r2 =>
    cases r2 with
    | cons r3 r4 => cases r4; exact ⟨_, _, rfl, r1, r3⟩
theorem call_max2 (hc : X.calm = true) : CallR X (.builtin "max") (fun xs H Q => ∃ i j, xs = [.int i, .int j] ∧ Q (.int (if j > i then j else i)) H) := by
  intro pins s σ H xs us Q I r h
  obtain ⟨i, j, rfl, q⟩ := h
  obtain ⟨u, w', rfl, ⟨t, rfl⟩, ⟨t', rfl⟩⟩ := vals2 r
  refine max_two_ints (I.ok.hd hc) fun h' tk k => ⟨_, H, I.kept k, ?_, q⟩
  by_cases hj : j > i
  · rw [if_pos hj, if_pos hj]; exact ⟨_, rfl⟩
  · rw [if_neg hj, if_neg hj]; exact ⟨_, rfl⟩
theorem call_min2 (hc : X.calm = true) : CallR X (.builtin "min") (fun xs H Q => ∃ i j, xs = [.int i, .int j] ∧ Q (.int (if j < i then j else i)) H) := by
  intro pins s σ H xs us Q I r h
  obtain ⟨i, j, rfl, q⟩ := h
  obtain ⟨u, w', rfl, ⟨t, rfl⟩, ⟨t', rfl⟩⟩ := vals2 r
  refine min_two_ints (I.ok.hd hc) fun h' tk k => ⟨_, H, I.kept k, ?_, q⟩
  by_cases hj : j < i
  · rw [if_pos hj, if_pos hj]; exact ⟨_, rfl⟩
  · rw [if_neg hj, if_neg hj]; exact ⟨_, rfl⟩
end
end L2
namespace L2
open PySem PySem.Spec PyProof.Rows
structure ObjM (h : Heap) (x dx C : Addr) (mA : Str → Option Value) : Prop where
  obj : h.get? x = some (PySem.W.instObj C dx)
  ns : h.Ns1 dx mA
  ne : dx ≠ x
theorem lookIn_ns {h : Heap} {dx : Addr} {mA : Str → Option Value} (n : h.Ns1 dx mA) : ∃ od, h.get? dx = some od ∧ ∀ name, PySem.W.lookIn name od = some (mA name) := by
  obtain ⟨o, es, ep, ho, hd, hk, _, hm⟩ := n
  refine ⟨o, ho, fun name => ?_⟩
  have e := hm name
  unfold nsFind findBy at e
  rw [← Array.find?_toList] at e
  unfold PySem.W.lookIn
  rw [hd]
  dsimp only
  split
  · rename_i y q
    rw [q] at e
    exact congrArg some e
  · rename_i q
    rw [q] at e
    have a : es.toList.any (·.refKey) = false := by
      rw [List.any_eq_false]
      intro y hy
      obtain ⟨z, t, hkey⟩ := hk y (Array.mem_toList_iff.mp hy)
      simp [DictEntry.refKey, hkey]
    have a' : ¬ es.toList.any (·.refKey) = true := by rw [a]; exact Bool.false_ne_true
    rw [if_neg a']
    exact congrArg some e
theorem ObjM.look {h : Heap} {x dx C : Addr} {mA : Str → Option Value} (I : ObjM h x dx C mA) : ∃ od, PySem.W.InstAt h x (PySem.W.instObj C dx) C (some od) ∧ ∀ name, PySem.W.lookIn name od = some (mA name) :=
  let ⟨od, ho, hl⟩ := lookIn_ns I.ns
  ⟨od, ⟨I.obj, rfl, rfl, ho⟩, hl⟩
section
variable {prog : Program} {w : World} {A : Around} {E : Value → Shared → Prop} {s : Shared} {K : PySem.W.Frag} {x dx C f : Addr} {mA : Str → Option Value} {name : Str} {v : Value}
theorem get_meth {pl : Sem Bool} {Q : Value × List Value → Shared → Prop} (X : K.In s.heap) (I : ObjM s.heap x dx C mA) (hg : PySem.W.plainGet K C name = true)
    (hf : PySem.W.findIn K (.ref C) name = some (some (.ref f))) (ht : PySem.W.isFn K (.ref f) = true) (hv : mA name = none) (h : Q (.ref f, [.ref x]) s) :
    wpAny (model prog w) A (getMethod (.ref x) name pl) Q E s := by
  obtain ⟨od, J, hl⟩ := I.look
  exact PySem.W.method_fn X J (PySem.W.plainGet_of hg).1 (PySem.W.plainGet_of hg).2 hf (beq_iff_eq.mp ht) (by show (PySem.W.lookIn name od).map (·.isSome) = some false; rw [hl, hv]; rfl) h
theorem set_map {ns : List Str} {Q : Unit → Shared → Prop} (X : K.In s.heap) (I : ObjM s.heap x dx C mA)
    (hs : PySem.W.findIn K (.ref C) "__setattr__" = some (some (.builtin "object.__setattr__"))) (hp : PySem.W.plainOver K C = true) (ht : PySem.W.takerIn K C name = some none) (hh : PySem.W.hasDictIn K C = true)
    (hw : PySem.Within mA ns) (hsz : ns.length ≤ sizeLine)
    (h : ∀ h', ObjM h' x dx C (fun y => if y = name then some v else mA y) → Heap.SameBut dx s.heap h' → Q () { s with heap := h', toks := s.toks + 2 }) :
    wpAny (model prog w) A (setAttr (.ref x) name v) Q E s := by
  obtain ⟨od, J, hl⟩ := I.look
  refine PySem.W.set_plain X J hs (PySem.W.osa_open (s := { s with toks := s.toks + 1 }) (r := none) X J hp ht fun b => ?_)
  obtain ⟨cd, hc, hd'⟩ := PySem.W.any_some hh
  have hx : s.heap.get? x = some ⟨.ref C, some dx, .plain, #[]⟩ := I.obj
  refine wpAny_bind (wpAny_pure (wpAny_bind (wpAny_bind (wpAny_loadPart hx (wpAny_bind (PySem.W.Looks.here (s := { s with toks := s.toks + 1 }) (PySem.W.looks_clsIn X hc) ?_))))))
  rw [hd']
  refine wpAny_pure (a := some dx) (wpAny_bind (wpAny_pure (wpAny_bind ?_)))
  refine wpAny_nsSet1 (s := { s with toks := s.toks + 1 }) I.ns fun h' hn2 hs2 => ?_
  obtain ⟨oD, esD, epD, hoD, hdD, hcD⟩ := hn2.count (PySem.Within.cons name v hw)
  refine wpAny_bind (wpAny_lookBehind hoD (by rw [hdD]; exact pastItsLine_dict (Nat.le_trans hcD (by rw [List.length_cons]; omega))) ?_)
  exact wpAny_pure (h _ ⟨(hs2.2 _ (Ne.symm I.ne)).trans I.obj, hn2, I.ne⟩ hs2)
theorem make_map {R : Result → Shared → Prop} {vs : List Value} {kw : List (Str × Value)} (X : K.In s.heap) (hm : PySem.W.makesIn K C = true)
    (hi : PySem.W.findIn K (.ref C) "__init__" = some (some (.ref f))) (hf : PySem.W.typeIn K (.ref f) = some (.type "function"))
    (h : codeAny (model prog w) (A.under (.builtin "type.__call__" ⟨.ref C :: vs, kw⟩)) (.call (.ref f) ⟨.ref (s.heap.objs.size + 1) :: vs, kw⟩) (PySem.W.InitBack (s.heap.objs.size + 1) R)
      { s with heap := (s.heap.push PySem.W.emptyDict).push (PySem.W.instObj C s.heap.objs.size) }) :
    codeAny (model prog w) A (.call (.ref C) ⟨vs, kw⟩) R s := by
  obtain ⟨hh, g, d, t, os⟩ := s
  exact PySem.W.make_core (PySem.W.makes_of X hm) (PySem.W.looks_findIn X hi) (fun self => PySem.W.bind_fn X self hf) (.inl rfl) h
end
noncomputable def putF (f : Str) (v : V) : List (Str × V) → List (Str × V)
  | [] => [(f, v)]
  | (g, x) :: r => if g = f then (g, v) :: r else (g, x) :: putF f v r
theorem lookup_putF (f g : Str) (v : V) : ∀ fs : List (Str × V), (putF f v fs).lookup g = if g = f then some v else fs.lookup g
  | [] => by
    show List.lookup g [(f, v)] = _
    by_cases h : g = f
    · have hb : (g == f) = true := beq_iff_eq.mpr h
      simp only [List.lookup, hb, if_pos h]
    · have hb : (g == f) = false := beq_eq_false_iff_ne.mpr h
      simp only [List.lookup, hb, if_neg h]
  | (k, x) :: r => by
    have ih := lookup_putF f g v r
    rw [show putF f v ((k, x) :: r) = (if k = f then (k, v) :: r else (k, x) :: putF f v r) from rfl]
    by_cases hk : k = f
    · rw [if_pos hk]
      by_cases h : g = k
      · have hb : (g == k) = true := beq_iff_eq.mpr h
        simp only [List.lookup, hb, if_pos (h.trans hk)]
      · have hb : (g == k) = false := beq_eq_false_iff_ne.mpr h
        simp only [List.lookup, hb, if_neg (fun e : g = f => h (e.trans hk.symm))]
    · rw [if_neg hk]
      by_cases h : g = k
      · have hb : (g == k) = true := beq_iff_eq.mpr h
        simp only [List.lookup, hb, if_neg (fun e : g = f => hk (h.symm.trans e))]
      · have hb : (g == k) = false := beq_eq_false_iff_ne.mpr h
        simp only [List.lookup, hb]
        exact ih
theorem keys_putF (f : Str) (v : V) : ∀ fs : List (Str × V), f ∈ (putF f v fs).map (·.1) ∧ ∀ g, g ∈ fs.map (·.1) → g ∈ (putF f v fs).map (·.1)
  | [] => ⟨by simp [putF], fun g h => by simp at h⟩
  | (k, x) :: r => by
    obtain ⟨i1, i2⟩ := keys_putF f v r
    rw [show putF f v ((k, x) :: r) = (if k = f then (k, v) :: r else (k, x) :: putF f v r) from rfl]
    by_cases hk : k = f
    · rw [if_pos hk]
      subst hk
      exact ⟨by simp, fun g h => by simpa using h⟩
    · rw [if_neg hk]
      refine ⟨?_, fun g h => ?_⟩
      · rw [List.map_cons]
        exact List.mem_cons_of_mem _ i1
      · rw [List.map_cons] at h ⊢
        rcases List.mem_cons.mp h with e | e
        · exact List.mem_cons.mpr (.inl e)
        · exact List.mem_cons_of_mem _ (i2 g e)
theorem length_putF (f : Str) (v : V) : ∀ fs : List (Str × V), (putF f v fs).length ≤ fs.length + 1
  | [] => by simp [putF]
  | (k, x) :: r => by
    have ih := length_putF f v r
    rw [show putF f v ((k, x) :: r) = (if k = f then (k, v) :: r else (k, x) :: putF f v r) from rfl]
    by_cases hk : k = f
    · rw [if_pos hk, List.length_cons, List.length_cons]; omega
    · rw [if_neg hk, List.length_cons, List.length_cons]; omega
theorem RelO.none_of {o : Option Value} (r : RelO none o) : o = none := by
  cases o with
  | none => rfl
  | some u => exact (show False from r).elim
section
variable {P : Program} {w : World} {H H' : Hp} {h h' : Heap} {a C dx : Addr} {fs fs' : List (Str × V)}
theorem ins_get (hok : HOk P w H h) (e : H a = some (.ins C dx fs)) : ∃ mA, ObjM h a dx C mA ∧ (∀ f, RelO (fs.lookup f) (mA f)) ∧ PySem.Within mA (fs.map (·.1)) ∧ fs.length ≤ 1000 ∧ H dx = some (.own a) := by
  obtain ⟨d, z, ne, ob, mA, n, r, q⟩ := (show ObjOk P w H h a (.ins C dx fs) from hok a _ e)
  exact ⟨mA, ⟨ob, n, ne⟩, r, q, z, d⟩
end
structure Cls (K : PySem.W.Frag) (C : Addr) : Prop where
  pg : PySem.W.plainGet K C Str.empty = true
  hd : PySem.W.hasDictIn K C = true
  po : PySem.W.plainOver K C = true
  sa : PySem.W.findIn K (.ref C) "__setattr__" = some (some (.builtin "object.__setattr__"))
theorem Cls.get {K : PySem.W.Frag} {C : Addr} (c : Cls K C) (f : Str) : PySem.W.plainGet K C f = true := c.pg
noncomputable def NoAttr (K : PySem.W.Frag) (C : Addr) (f : Str) : Prop := PySem.W.findIn K (.ref C) f = some none
theorem NoAttr.taker {K : PySem.W.Frag} {C : Addr} {f : Str} (n : NoAttr K C f) : PySem.W.takerIn K C f = some none := by
  unfold PySem.W.takerIn
  rw [show PySem.W.findIn K (.ref C) f = some none from n]
  rfl
structure Meth (K : PySem.W.Frag) (C : Addr) (m : Str) (f : Addr) : Prop where
  at_ : PySem.W.findIn K (.ref C) m = some (some (.ref f))
  fn : PySem.W.isFn K (.ref f) = true
  kp : PySem.W.keepIn K (.ref f) = true
section
variable {X : Cx} {pins : List (Addr × Obj)} {σ : St} {H : Hp} {s : Shared} {a C dx : Addr} {fs : List (Str × V)} {f : Str} {v : V} {A : Around} {E : Value → Shared → Prop}
theorem getmeth_ok {m : Str} {g : Addr} {pl : Sem Bool} {Q : Value × List Value → Shared → Prop} (I : Inv X pins σ H s) (e : H a = some (.ins C dx fs)) (c : Cls X.K C) (k : Meth X.K C m g) (l : fs.lookup m = none)
    (h : Q (.ref g, [.ref a]) s) : wpAny (model X.prog X.w) A (getMethod (.ref a) m pl) Q E s := by
  obtain ⟨mA, O, r, _, _, _⟩ := ins_get I.hok e
  have hn : mA m = none := RelO.none_of (by rw [← l]; exact r m)
  exact get_meth I.kIn O (c.get m) k.at_ k.fn hn h
theorem setattr_ok {y : V} {u : Value} {Q : Unit → Shared → Prop} (I : Inv X pins σ H s) (e : H a = some (.ins C dx fs)) (c : Cls X.K C) (n : NoAttr X.K C f) (hl : fs.length < 1000) (ry : RelV y u)
    (h : ∀ s', Inv X pins σ (upd H a (.ins C dx (putF f y fs))) s' → Q () s') : wpAny (model X.prog X.w) A (setAttr (.ref a) f u) Q E s := by
  obtain ⟨mA, O, r, wi, _, ho⟩ := ins_get I.hok e
  have hz : (fs.map (·.1)).length ≤ sizeLine := by rw [List.length_map, sizeLine_eq]; omega
  refine set_map I.kIn O c.sa c.po n.taker c.hd wi hz fun h' O' sb => h _ ?_
  have hd : ∃ o, h'.get? dx = some o := let ⟨o, _, _, e', _⟩ := O'.ns; ⟨o, e'⟩
  refine I.write (x := a) (e := dx) (by rw [e]; exact True.intro) (.inr ho) (fun b q hb z => (sb.2 b hb).trans z) hd ?_
  refine ⟨by rw [upd_ne O.ne]; exact ho, ?_, O.ne, O'.obj, _, O'.ns, fun g => ?_, fun g hg => ?_⟩
  · have := length_putF f y fs; omega
  · show RelO ((putF f y fs).lookup g) (if g = f then some u else mA g)
    rw [lookup_putF]
    by_cases q : g = f
    · rw [if_pos q, if_pos q]; exact ry
    · rw [if_neg q, if_neg q]; exact r g
  · by_cases q : g = f
    · rw [q]; exact (keys_putF f y fs).1
    · refine (keys_putF f y fs).2 g (wi g fun z => hg ?_)
      show (if g = f then some u else mA g) = none
      rw [if_neg q]; exact z
theorem Inv.made (I : Inv X pins σ H s) : Inv X pins σ (upd (upd H s.heap.objs.size (.own (s.heap.objs.size + 1))) (s.heap.objs.size + 1) (.ins C s.heap.objs.size []))
    { s with heap := (s.heap.push PySem.W.emptyDict).push (PySem.W.instObj C s.heap.objs.size) } := by
  have e1 : (s.heap.push PySem.W.emptyDict).get? s.heap.objs.size = some PySem.W.emptyDict := Heap.get?_push_size s.heap rfl
  have e2 : ((s.heap.push PySem.W.emptyDict).push (PySem.W.instObj C s.heap.objs.size)).get? (s.heap.objs.size + 1) = some (PySem.W.instObj C s.heap.objs.size) := by
    have := Heap.get?_push_size (s.heap.push PySem.W.emptyDict) (o := PySem.W.instObj C s.heap.objs.size) rfl
    rwa [Heap.size_push] at this
  have e3 : (s.heap.push PySem.W.emptyDict).Ns s.heap.objs.size (fun _ => none) := ⟨PySem.W.emptyDict, #[], _, e1, rfl, (fun e he => absurd he (by simp)), fun _ => rfl⟩
  have I1 := I.laid (a := s.heap.objs.size) (o := .own (s.heap.objs.size + 1)) (h' := s.heap.push PySem.W.emptyDict) (t' := s.toks) (fun b u q => Heap.get?_push_of_some _ q) (Nat.le_refl _) ⟨_, e1⟩
  refine I1.laid (a := s.heap.objs.size + 1) (o := .ins C s.heap.objs.size []) (t' := s.toks) (fun b u q => Heap.get?_push_of_some _ q) (Nat.le_of_eq (Heap.size_push _ _)) ?_
  have ne : s.heap.objs.size ≠ s.heap.objs.size + 1 := Nat.ne_of_lt (Nat.lt_succ_self _)
  refine ⟨by rw [upd_ne ne, upd_same], Nat.zero_le _, ne, e2, fun _ => none, (Heap.Ns1.of_empty e3).at fun o q => Heap.get?_push_of_some _ q, fun _ => True.intro, fun y hy => absurd rfl hy⟩
end
noncomputable def sFld (K : PySem.W.Frag) (ta tv : TE) (f : Str) : TS := fun D σ H => tv σ H fun y H1 => ta σ H1 fun x H2 => ∃ a C dx fs, x = .ref a ∧ H2 a = some (.ins C dx fs) ∧ Cls K C ∧ NoAttr K C f ∧ fs.length < 1000 ∧
  D.nx σ (upd H2 a (.ins C dx (putF f y fs)))
section
variable {X : Cx} {o e value : Expr} {f : Str} {pos pos' tpos : Pos} {ta tv : TE}
theorem ps_fld (ha : PE X o ta) (hv : PE X value tv) (hs : swapsWith value (some (.Attribute o f pos')) pos.line X.env = pure false) : PS X (.Assign [.Attribute o f pos'] value pos) (sFld X.K ta tv f) := by
  intro pins s σ H D I h
  refine plainObj_wpAny_Assign_Attribute (thn (hv pins s σ H _ I h) fun u s1 ⟨y, H1, I1, ry, q⟩ => thn (ha pins s1 σ H1 _ I1 q) fun ov s2 ⟨x, H2, I2, rx, a, C, dx, fs, ex, ea, c, n, l, q2⟩ => ?_) hs
  subst ex
  obtain rfl : ov = Value.ref a := rx
  exact setattr_ok I2 ea c n l ry fun s3 I3 => ⟨σ, _, I3, q2⟩
theorem methcall_of {pl : Sem Bool} {m : Str} {apos : Pos} {args : List Expr} {pins : List (Addr × Obj)} {s : Shared} {σ : St} {H : Hp} {Q : Value → Shared → Prop} {te : TE} (he : PE X e te) (I : Inv X pins σ H s)
    (h : te σ H fun x H1 => ∃ a C dx fs g, x = .ref a ∧ H1 a = some (.ins C dx fs) ∧ Cls X.K C ∧ Meth X.K C m g ∧ fs.lookup m = none ∧
      ∀ s1, Inv X pins σ H1 s1 → wpAny (model X.prog X.w) X.A (callWith pos (.ref g) [.ref a] (backTo pos (starEach args X.env)) (backToKw pos (keywordEach [] X.env))) Q X.xe s1)
    (ht : eval (.Call (.Attribute e m apos) args [] pos) X.env = (do
      let ov ← eval e X.env
      standAt apos.atName
      let (f, first) ← holding [ov] (getMethod ov m pl)
      callWith pos f first (backTo pos (starEach args X.env)) (backToKw pos (keywordEach [] X.env)))) :
    wpAny (model X.prog X.w) X.A (eval (.Call (.Attribute e m apos) args [] pos) X.env) Q X.xe s := by
  refine PySem.W.methodCall_KW (pl := pl) (thn (he pins s σ H _ I h) fun u s1 ⟨x, H1, I1, rx, a, C, dx, fs, g, ex, ea, c, k, l, q⟩ => ?_) ht
  subst ex
  obtain rfl : u = Value.ref a := rx
  exact getmeth_ok I1 ea c k l (q s1 I1)
end
section
variable {X : Cx} {pins : List (Addr × Obj)} {σ : St} {H : Hp} {s : Shared} {A : Around} {E : Value → Shared → Prop} {Q : Value → Shared → Prop} {c : Value} {b : Bool}
inductive TyOf (K : PySem.W.Frag) (H : Hp) : V → Value → Prop where
  | non : TyOf K H .non (.type "NoneType")
  | bl (x : Bool) : TyOf K H (.bl x) (.type "bool")
  | int (i : Int) : TyOf K H (.int i) (.type "int")
  | str (x : Str) : TyOf K H (.str x) (.type "str")
  | flt (x : UInt64) : TyOf K H (.flt x) (.type "float")
  | lst {a : Addr} {xs : List V} (e : H a = some (.lst xs)) : TyOf K H (.ref a) (.type "list")
  | frz {a : Addr} {o : Obj} {xs : List V} (e : H a = some (.frz o (.lst xs))) : TyOf K H (.ref a) (.type "list")
  | tup {a : Addr} {xs : List V} (e : H a = some (.tup xs)) : TyOf K H (.ref a) (.type "tuple")
  | dK {a : Addr} {kvs : List (Key × V)} (e : H a = some (.dK kvs)) : TyOf K H (.ref a) (.type "dict")
  | dT {a : Addr} {kvs : List (List Key × V)} (e : H a = some (.dT kvs)) : TyOf K H (.ref a) (.type "dict")
  | ins {a C dx : Addr} {fs : List (Str × V)} (e : H a = some (.ins C dx fs)) (cl : Cls K C) (ha : PySem.W.findIn K (.ref C) "__class__" = some (some (.builtin "object.__class__")))
      (hn : PySem.W.specialIn K (.builtin "object.__class__") "__get__" = some (some (.builtin "getset_descriptor.__get__"))) (htk : PySem.W.takesIn K (.builtin "object.__class__") = some true)
      (hm : PySem.W.mroIn K C (.type "object") = some true) : TyOf K H (.ref a) (.ref C)
theorem isinst_ok {x : V} {u t : Value} (I : Inv X pins σ H s) (rx : RelV x u) (ty : TyOf X.K H x t) (e : PySem.W.kitOne X.K t c = some b) (h : ∀ tk, Q (.bool b) { s with toks := tk }) :
    wpAny (model X.prog X.w) A (call (.builtin "isinstance") [u, c]) Q E s := by
  cases ty with
  | non => cases (show u = Value.none from rx); exact PySem.W.kia_one PySem.W.kitx_none I.kIn True.intro e (fun z => nomatch z) h
  | bl y => cases (show u = Value.bool y from rx); exact PySem.W.kia_one PySem.W.kitx_bool I.kIn True.intro e (fun z => nomatch z) h
  | int i => obtain ⟨t, q⟩ := (show ∃ t, u = Value.int i t from rx); cases q; exact PySem.W.kia_one PySem.W.kitx_int I.kIn True.intro e (fun z => nomatch z) h
  | str y => obtain ⟨t, q⟩ := (show ∃ t, u = Value.str y t from rx); cases q; exact PySem.W.kia_one PySem.W.kitx_str I.kIn True.intro e (fun z => nomatch z) h
  | flt y => obtain ⟨t, q⟩ := (show ∃ t, u = Value.float y t from rx); cases q; exact PySem.W.kia_one PySem.W.kitx_float I.kIn True.intro e (fun z => nomatch z) h
  | @lst a xs ea =>
    cases (show u = Value.ref a from rx)
    obtain ⟨_, _, n, _, h1⟩ := (show ObjOk X.prog X.w H s.heap a (.lst xs) from I.hok a _ ea)
    exact PySem.W.kia_one PySem.W.kitx_list I.kIn ⟨_, h1, rfl⟩ e (fun z => nomatch z) h
  | @frz a ob xs ea =>
    cases (show u = Value.ref a from rx)
    obtain ⟨_, _, _, n, _, h1⟩ := (show ObjOk X.prog X.w H s.heap a (.frz ob (.lst xs)) from I.hok a _ ea)
    exact PySem.W.kia_one PySem.W.kitx_list I.kIn ⟨_, h1, rfl⟩ e (fun z => nomatch z) h
  | @tup a xs ea =>
    cases (show u = Value.ref a from rx)
    obtain ⟨_, _, _, p⟩ := (show ObjOk X.prog X.w H s.heap a (.tup xs) from I.hok a _ ea)
    obtain ⟨o, h1, h2, _⟩ := p
    exact PySem.W.kia_one PySem.W.kitx_tuple I.kIn ⟨o, h1, h2⟩ e (fun z => nomatch z) h
  | @dK a kvs ea =>
    cases (show u = Value.ref a from rx)
    obtain ⟨_, _, vs, _, p⟩ := (show ObjOk X.prog X.w H s.heap a (.dK kvs) from I.hok a _ ea)
    obtain ⟨o, es, ep, h1, h2, _⟩ := p
    exact PySem.W.kia_one PySem.W.kitx_dict I.kIn ⟨o, h1, h2.1⟩ e (fun z => nomatch z) h
  | @dT a kvs ea =>
    cases (show u = Value.ref a from rx)
    obtain ⟨_, _, xs, _, o, es, ep, h1, h2, _⟩ := (show ObjOk X.prog X.w H s.heap a (.dT kvs) from I.hok a _ ea)
    exact PySem.W.kia_one PySem.W.kitx_dict I.kIn ⟨o, h1, h2.1⟩ e (fun z => nomatch z) h
  | @ins a C dx fs ea cl ha hn htk hm =>
    cases (show u = Value.ref a from rx)
    obtain ⟨mA, O, _⟩ := ins_get I.hok ea
    obtain ⟨od, J, _⟩ := O.look
    exact PySem.W.kia_one (PySem.W.kitx_own (cl.get _) cl.hd ha hn htk hm) I.kIn J e (fun z => nomatch z) h
end
end L2
namespace L2
open PySem PySem.Spec PyProof.Rows
structure Room (k : Nat) (A : Around) : Prop where
  hd : A.handled = none
  dp : A.depth + 3 * k + 5 < recursionLimit
  un : A.units + 16 * k + 200 < cLine
theorem Room.mono {j k : Nat} {A : Around} (r : Room k A) (h : j ≤ k) : Room j A := ⟨r.hd, by have := r.dp; omega, by have := r.un; omega⟩
theorem Room.deeper {k : Nat} {A : Around} (r : Room (k + 1) A) (env : Env) : Room k (A.deeper env) :=
  ⟨r.hd, by have := r.dp; show A.depth + 1 + 3 * k + 5 < _; omega, by have := r.un; show A.units + 3 + 16 * k + 200 < _; omega⟩
theorem make_depth {A : Around} {C : Addr} {us : List Value} {kw : List (Str × Value)} : (A.under (.builtin "type.__call__" ⟨.ref C :: us, kw⟩)).depth = A.depth + 1 := by
  first | rfl | simp [Around.under, Code.weight, Code.isCreation, Code.isGuard, Code.isCaller, Code.frames, Code.isFrame, guardIds]
theorem make_units {A : Around} {C : Addr} {us : List Value} {kw : List (Str × Value)} : (A.under (.builtin "type.__call__" ⟨.ref C :: us, kw⟩)).units = A.units + 1 := by
  first | rfl | simp [Around.under, Code.cUnits, Code.frames, Code.isFrame]
theorem Room.make {k : Nat} {A : Around} (r : Room (k + 1) A) (C : Addr) (us : List Value) (kw : List (Str × Value)) : Room k (A.under (.builtin "type.__call__" ⟨.ref C :: us, kw⟩)) :=
  ⟨r.hd, by have := r.dp; rw [make_depth]; omega, by have := r.un; rw [make_units]; omega⟩
theorem Room.depth {k : Nat} {A : Around} (r : Room k A) : A.depth < recursionLimit := by have := r.dp; omega
noncomputable def tNil : TA := fun _ H Q => Q [] H
noncomputable def tCons (ta : TE) (tr : TA) : TA := fun σ H Q => ta σ H fun x H1 => tr σ H1 fun xs H2 => Q (x :: xs) H2
section
variable {X : Cx} {e : Expr} {es : List Expr} {te : TE} {t : TA} {pos : Pos}
theorem pa_nil : PA X [] tNil := fun _ _ _ _ H Q I h => Calls.spliced_nil ⟨[], H, I, .nil, h⟩
theorem pa_cons (ha : PE X e te) (hr : PA X es t) (hs : starEach (e :: es) X.env = (false, eval e X.env) :: starEach es X.env := by rfl) : PA X (e :: es) (tCons te t) := by
  intro pos pins s σ H Q I h
  rw [hs]
  show wpAny _ _ (spliced ((false, eval e X.env) :: backTo pos (starEach es X.env))) _ _ s
  refine Calls.spliced_cons (thn (ha pins s σ H _ I h) fun u s1 ⟨x, H1, I1, r1, q1⟩ => ?_)
  exact thn (hr pos pins s1 σ H1 _ I1 q1) fun us s2 ⟨xs, H2, I2, r2, q2⟩ => ⟨x :: xs, H2, I2, .cons r1 r2, q2⟩
noncomputable def tTup (t : TA) : TE := fun σ H Q => t σ H fun xs H1 => xs.length ≤ sizeLine ∧ ∀ p, H1 p = none → Q (.ref p) (upd H1 p (.tup xs))
noncomputable def tLst (t : TA) : TE := fun σ H Q => t σ H fun xs H1 => xs.length ≤ sizeLine ∧ ∀ p, H1 p = none → Q (.ref p) (upd H1 p (.lst xs))
theorem pe_tup {x1} (h : PA X es t) : PE X (.Tuple es x1 pos) (tTup t) := by
  intro pins s σ H Q I hq
  refine wpAny_Tuple_spliced (thn (h pos pins s σ H _ I hq) fun us s1 ⟨xs, H1, I1, r, z, q⟩ => ⟨by rw [← r.length]; exact z, ?_⟩)
  have hf : H1 s1.heap.objs.size = none := I1.hok.fresh (Nat.le_refl _)
  refine ⟨.ref s1.heap.objs.size, upd H1 s1.heap.objs.size (.tup xs), I1.laid (t' := s1.toks) (fun b u e => Heap.get?_push_of_some _ e) (Nat.le_refl _) ?_, rfl, q _ hf⟩
  exact ⟨z, us, r, ⟨_, Heap.get?_push_size _ rfl, rfl, _, rfl⟩⟩
theorem pe_lst (h : PA X es t) : PE X (.List es pos) (tLst t) := by
  intro pins s σ H Q I hq
  refine wpAny_List_spliced (thn (h pos pins s σ H _ I hq) fun us s1 ⟨xs, H1, I1, r, z, q⟩ => ⟨by rw [← r.length]; exact z, ?_⟩)
  have hf : H1 s1.heap.objs.size = none := I1.hok.fresh (Nat.le_refl _)
  refine ⟨.ref s1.heap.objs.size, upd H1 s1.heap.objs.size (.lst xs), I1.laid (t' := s1.toks) (fun b u e => Heap.get?_push_of_some _ e) (Nat.le_refl _) ?_, rfl, q _ hf⟩
  exact ⟨z, us, 0, r, Heap.get?_push_size _ rfl⟩
end
noncomputable abbrev Sp := List V → Hp → VK → XK → Prop
noncomputable abbrev CXT := List Env → Hp → Shared → XK → Value → Shared → Prop
structure Env0 (P : Program) (w : World) (K : PySem.W.Frag) (mg : Str → Option Value) (base : Heap) (A : Around) (outer : List Env) (s : Shared) (H : Hp) : Prop where
  frames : A.frames = some outer
  mod : Mod K mg base
  bs : ∀ b o, base.get? b = some o → s.heap.get? b = some o ∧ H b = none
  bsz : base.objs.size ≤ s.heap.objs.size
  funs : s.heap.FunFrames base outer
  frf : ∀ b ∈ frs outer, H b = none
  hok : HOk P w H s.heap
  bare : AllBare s.gens
noncomputable def CE (outer : List Env) (P : Program) (w : World) (H : Hp) (s : Shared) (Q : VK) (u : Value) (s' : Shared) : Prop :=
  ∃ v H', s'.os = s.os ∧ AllBare s'.gens ∧ Un (frs outer) [] H H' s.heap s'.heap ∧ HOk P w H' s'.heap ∧ RelV v u ∧ Q v H'
noncomputable def CR (CX : CXT) (outer : List Env) (P : Program) (w : World) (H : Hp) (s : Shared) (Q : VK) (E : XK) (r : Result) (s' : Shared) : Prop :=
  match r with
  | .ok (.ret u) => CE outer P w H s Q u s'
  | .ok _ => False
  | .error e => CX outer H s E e s'
structure FnOk (P : Program) (w : World) (K : PySem.W.Frag) (mg : Str → Option Value) (base : Heap) (CX : CXT) (k : Nat) (f : Addr) (fd : FuncData) (ps : List Str) (sp : Sp) : Prop where
  len : ∀ vs H Q E, sp vs H Q E → vs.length = ps.length
  run : ∀ (A : Around) (outer : List Env) (s : Shared) (H : Hp) (args : Args) (us : List Value) (vs : List V) (Q : VK) (E : XK), Room k A → Env0 P w K mg base A outer s H → BindsTo s fd args (ps.zip us) → Vals vs us → sp vs H Q E →
    codeAny (model P w) A (.call (.ref f) args) (CR CX outer P w H s Q E) s
theorem Env0.make {P : Program} {w : World} {K : PySem.W.Frag} {mg : Str → Option Value} {base : Heap} {A : Around} {outer : List Env} {s : Shared} {H : Hp} (e : Env0 P w K mg base A outer s H) (C : Addr) (us : List Value) (kw : List (Str × Value)) :
    Env0 P w K mg base (A.under (.builtin "type.__call__" ⟨.ref C :: us, kw⟩)) outer s H := ⟨by first | exact e.frames | (simpa [Around.under, Code.envs, Code.isFrame, pushEnvs] using e.frames), e.mod, e.bs, e.bsz, e.funs, e.frf, e.hok, e.bare⟩
section
variable {X : Cx} {pins : List (Addr × Obj)} {σ : St} {H : Hp} {s s' : Shared}
theorem Inv.env0 (I : Inv X pins σ H s) : Env0 X.prog X.w X.K X.mg X.base X.A X.stack s H :=
  ⟨I.ok.frames, I.ok.mod, I.bs, Nat.le_trans I.ok.bsz I.sz, I.stack, I.stkFree, I.hok, I.bare⟩
theorem Inv.after {Q : VK} {u : Value} (I : Inv X pins σ H s) (h : CE X.stack X.prog X.w H s Q u s') : EP X pins σ Q u s' := by
  obtain ⟨v, H', os, bare, un, hok, r, q⟩ := h
  obtain ⟨hh, g, d, t, os'⟩ := s'
  obtain rfl : os' = s.os := os
  exact ⟨v, H', I.call (h' := hh) (g' := g) (d' := d) (t' := t) (ch := []) un hok bare (fun b z => absurd z (by simp)), r, q⟩
end
noncomputable def tCall (sp : Sp) (dvs : List V) (E : XK) (t : TA) : TE := fun σ H Q => t σ H fun vs H1 => sp (vs ++ dvs) H1 Q E
noncomputable def tMeth (C : Addr) (m : Str) (sp : Sp) (dvs : List V) (E : XK) (ta : TE) (t : TA) : TE := fun σ H Q => ta σ H fun x H1 => ∃ a dx fs, x = .ref a ∧ H1 a = some (.ins C dx fs) ∧ fs.lookup m = none ∧
  t σ H1 fun vs H2 => sp (x :: (vs ++ dvs)) H2 Q E
noncomputable def tMake (C : Addr) (sp : Sp) (dvs : List V) (E : XK) (t : TA) : TE := fun σ H Q => t σ H fun vs H1 => ∀ x dx, H1 x = none → H1 dx = none → dx ≠ x →
  sp (.ref x :: (vs ++ dvs)) (upd (upd H1 dx (.own x)) x (.ins C dx [])) (fun v H2 => v = .non ∧ Q (.ref x) H2) E
noncomputable def Binds (K : PySem.W.Frag) (fd : FuncData) (ps : List Str) (ds : List Value) : Prop :=
  ∀ (s : Shared) (us : List Value), K.In s.heap → (us ++ ds).length = ps.length → BindsTo s fd ⟨us, []⟩ (ps.zip (us ++ ds))
theorem Binds.all {K : PySem.W.Frag} {fd : FuncData} {ps : List Str} (h : ∀ us : List Value, us.length = ps.length → bindArgs fd ⟨us, []⟩ = pure (ps.zip us)) : Binds K fd ps [] := fun s us _ hl => by
  rw [List.append_nil] at hl ⊢
  exact .of_eq (h us hl)
noncomputable def Passes (CX : CXT) (X : Cx) (E : XK) : Prop := ∀ (pins : List (Addr × Obj)) (σ : St) (H : Hp) (s : Shared) (e : Value) (s' : Shared), Inv X pins σ H s → CX X.stack H s E e s' → X.xe e s'
section
variable {X : Cx} {CX : CXT} {k : Nat} {f C : Addr} {fd : FuncData} {ps : List Str} {sp : Sp} {dvs : List V} {ds : List Value} {E : XK} {x m : Str} {p pos apos : Pos} {e o : Expr} {es : List Expr} {ta : TE} {t : TA}
theorem run_fn {pins : List (Addr × Obj)} {σ : St} {H : Hp} {s : Shared} {Q : VK} {us : List Value} {vs : List V} (F : FnOk X.prog X.w X.K X.mg X.base CX k f fd ps sp) (hr : Room k X.A) (hb : Binds X.K fd ps ds) (hd : Vals dvs ds) (hx : Passes CX X E)
    (I : Inv X pins σ H s) (r : Vals vs us) (h : sp (vs ++ dvs) H Q E) : wpAny (model X.prog X.w) X.A (call (.ref f) us) (EP X pins σ Q) X.xe s := by
  have r2 : Vals (vs ++ dvs) (us ++ ds) := r.append hd
  have hl : (us ++ ds).length = ps.length := by rw [← r2.length]; exact F.len _ _ _ _ h
  refine wpAny_call (codeAny_mono (F.run X.A X.stack s H ⟨us, []⟩ (us ++ ds) (vs ++ dvs) Q E hr I.env0 (hb s us I.kIn hl) r2 h) fun r s' hq => ?_)
  cases r with
  | error e => exact hx pins σ H s e s' I hq
  | ok fl =>
    cases fl with
    | ret u => exact I.after hq
    | next => exact False.elim hq
    | brk => exact False.elim hq
    | cont => exact False.elim hq
theorem pe_call (F : FnOk X.prog X.w X.K X.mg X.base CX k f fd ps sp) (hr : Room k X.A) (hg : Gl X x) (hm : X.mg x = some (.ref f)) (hk : PySem.W.keepIn X.K (.ref f) = true) (hb : Binds X.K fd ps ds) (hd : Vals dvs ds) (hx : Passes CX X E)
    (ha : PA X (e :: es) t) (hdb : (x == ("__debug__" : Str)) = false := by decide) (he : starEach (e :: es) X.env = (false, eval e X.env) :: starEach es X.env := by rfl) (hpl : (backTo pos (starEach es X.env)).any (·.1) = false := by rfl) :
    PE X (.Call (.Name x p) (e :: es) [] pos) (tCall sp dvs E t) := by
  intro pins s σ H Q I h
  refine wpAny_Call_Name_kw (ld_glob I hg hm ?_ hdb)
  refine PySem.W.callWith_K (h₀ := X.base) I.ok.mod.kin hk (thn (ha pos pins s σ H _ I h) fun us s1 ⟨vs, H1, I1, r, q⟩ => ⟨I1.kIn, ?_⟩) he hpl
  exact run_fn F hr hb hd hx I1 r q
theorem pe_meth {pl : Sem Bool} (he : PE X o ta) (c : Cls X.K C) (hm : Meth X.K C m f) (F : FnOk X.prog X.w X.K X.mg X.base CX k f fd ps sp) (hr : Room k X.A) (hb : Binds X.K fd ps ds) (hd : Vals dvs ds) (hx : Passes CX X E) (ha : PA X (e :: es) t)
    (hst : starEach (e :: es) X.env = (false, eval e X.env) :: starEach es X.env := by rfl) (hpl : (backTo pos (starEach es X.env)).any (·.1) = false := by rfl)
    (ht : eval (.Call (.Attribute o m apos) (e :: es) [] pos) X.env = (do
      let ov ← eval o X.env
      standAt apos.atName
      let (f, first) ← holding [ov] (getMethod ov m pl)
      callWith pos f first (backTo pos (starEach (e :: es) X.env)) (backToKw pos (keywordEach [] X.env))) := by rfl) :
    PE X (.Call (.Attribute o m apos) (e :: es) [] pos) (tMeth C m sp dvs E ta t) := by
  intro pins s σ H Q I h
  refine PySem.W.methodCall_KW (pl := pl) (thn (he pins s σ H _ I h) fun u s1 ⟨x, H1, I1, rx, a, dx, fs, ex, ea, l, q⟩ => ?_) ht
  subst ex
  obtain rfl : u = Value.ref a := rx
  refine getmeth_ok I1 ea c hm l ?_
  refine PySem.W.callWith_K (first := [.ref a]) (h₀ := X.base) I.ok.mod.kin hm.kp (thn (ha pos pins s1 σ H1 _ I1 q) fun us s2 ⟨vs, H2, I2, r, q2⟩ => ⟨I2.kIn, ?_⟩) hst hpl
  exact run_fn (us := .ref a :: us) (vs := .ref a :: vs) F hr hb hd hx I2 (.cons rfl r) q2
structure Mk (K : PySem.W.Frag) (C f : Addr) : Prop where
  makes : PySem.W.makesIn K C = true
  init : PySem.W.findIn K (.ref C) "__init__" = some (some (.ref f))
  fn : PySem.W.isFn K (.ref f) = true
  kp : PySem.W.keepIn K (.ref C) = true
theorem run_make {pins : List (Addr × Obj)} {σ : St} {H : Hp} {s : Shared} {Q : VK} {us : List Value} {vs : List V} (M : Mk X.K C f) (F : FnOk X.prog X.w X.K X.mg X.base CX k f fd ps sp) (hr : Room (k + 1) X.A) (hb : Binds X.K fd ps ds) (hd : Vals dvs ds)
    (hx : Passes CX X E) (I : Inv X pins σ H s) (r : Vals vs us)
    (h : ∀ x dx, H x = none → H dx = none → dx ≠ x → sp (.ref x :: (vs ++ dvs)) (upd (upd H dx (.own x)) x (.ins C dx [])) (fun v H2 => v = .non ∧ Q (.ref x) H2) E) :
    wpAny (model X.prog X.w) X.A (call (.ref C) us) (EP X pins σ Q) X.xe s := by
  have hq := h (s.heap.objs.size + 1) s.heap.objs.size (I.hok.fresh (Nat.le_succ _)) (I.hok.fresh (Nat.le_refl _)) (Nat.ne_of_lt (Nat.lt_succ_self _))
  have I2 := Inv.made (C := C) I
  have r2 : Vals (V.ref (s.heap.objs.size + 1) :: (vs ++ dvs)) (Value.ref (s.heap.objs.size + 1) :: (us ++ ds)) := .cons rfl (r.append hd)
  have hl : (Value.ref (s.heap.objs.size + 1) :: us ++ ds).length = ps.length := by
    have e := r2.length
    rw [F.len _ _ _ _ hq] at e
    exact e.symm
  refine wpAny_call (make_map (f := f) I.kIn M.makes M.init (beq_iff_eq.mp M.fn) (codeAny_mono (F.run _ X.stack _ _ ⟨Value.ref (s.heap.objs.size + 1) :: us, []⟩ (Value.ref (s.heap.objs.size + 1) :: (us ++ ds)) _ _ E (hr.make C us [])
    (I2.env0.make C us []) (hb _ (Value.ref (s.heap.objs.size + 1) :: us) I2.kIn hl) r2 hq) fun r s' hq' => ?_))
  cases r with
  | error e => exact hx pins σ _ _ e s' I2 hq'
  | ok fl =>
    cases fl with
    | ret u =>
      obtain ⟨v, H', I3, rv, ev, q3⟩ := I2.after hq'
      subst ev
      exact ⟨rv, ⟨V.ref (s.heap.objs.size + 1), H', I3, rfl, q3⟩⟩
    | next => exact False.elim hq'
    | brk => exact False.elim hq'
    | cont => exact False.elim hq'
theorem pe_make0 (M : Mk X.K C f) (F : FnOk X.prog X.w X.K X.mg X.base CX k f fd ps sp) (hr : Room (k + 1) X.A) (hg : Gl X x) (hm : X.mg x = some (.ref C)) (hb : Binds X.K fd ps ds) (hd : Vals dvs ds) (hx : Passes CX X E)
    (hdb : (x == ("__debug__" : Str)) = false := by decide) : PE X (.Call (.Name x p) [] [] pos) (tMake C sp dvs E tNil) := by
  intro pins s σ H Q I h
  refine wpAny_Call_Name_kw (ld_glob I hg hm ?_ hdb)
  exact PySem.W.callWith_K0 I.kIn M.kp (run_make (us := []) M F hr hb hd hx I .nil h)
end
section
variable {X : Cx} {CX : CXT} {k : Nat} {f C : Addr} {fd : FuncData} {ps ks : List Str} {sp : Sp} {E : XK} {x m : Str} {p pos apos kpos : Pos} {e o : Expr} {es : List Expr} {kws : List Keyword} {te ta : TE} {t tk : TA} {nm : Option Str}
variable {g : List Value → List Value → List Value} {gV : List V → List V → List V}
end
structure FnScope (N P : List Str) (sc : Scope) : Prop where
  kind : sc.kind = .function
  co : sc.isCoroutine = false
  gen : sc.isGenerator = false
  nd : N.Nodup
  pre : N.take P.length = P
  par : ∀ x ∈ P, sc.names.lookup x = some .local ∨ sc.names.lookup x = some .cell
  nofree : ∀ y ∈ sc.names, y.2 ≠ .free
theorem bindL_out {kindOf : Str → Option NameKind} {x : Str} : ∀ {binds : List (Str × Value)} {m : Str → Option Value}, (∀ v, (x, v) ∉ binds) → bindL kindOf binds m x = m x
  | [], _, _ => rfl
  | (n, v) :: r, m, h => by
    unfold bindL
    rw [bindL_out fun w hw => h w (List.mem_cons_of_mem _ hw)]
    split
    · have : x ≠ n := by rintro rfl; exact h v List.mem_cons_self
      simp [this]
    · rfl
theorem bindC_out {kindOf : Str → Option NameKind} {x : Str} : ∀ {binds : List (Str × Value)} {m : Str → Option Value}, (∀ v, (x, v) ∉ binds) → bindC kindOf binds m x = m x
  | [], _, _ => rfl
  | (n, v) :: r, m, h => by
    unfold bindC
    rw [bindC_out fun w hw => h w (List.mem_cons_of_mem _ hw)]
    split
    · rfl
    · have : x ≠ n := by rintro rfl; exact h v List.mem_cons_self
      simp [this]
theorem bindL_get {kindOf : Str → Option NameKind} {x : Str} {v : Value} : ∀ {P : List Str} {vs : List Value} {i : Nat} {m : Str → Option Value}, P.Nodup → P[i]? = some x → vs[i]? = some v → kindOf x = some .local →
    bindL kindOf (P.zip vs) m x = some v
  | [], _, _, _, _, h, _, _ => by simp at h
  | _ :: _, [], _, _, _, _, h, _ => by simp at h
  | p :: P, w :: vs, 0, m, nd, h1, h2, hk => by
    simp at h1 h2; subst h1; subst h2
    show bindL kindOf ((p, w) :: P.zip vs) m p = _
    unfold bindL
    rw [bindL_out fun v hv => (List.nodup_cons.mp nd).1 (List.of_mem_zip hv).1, if_pos hk]
    simp
  | p :: P, w :: vs, i + 1, m, nd, h1, h2, hk => by
    show bindL kindOf ((p, w) :: P.zip vs) m x = _
    unfold bindL
    exact bindL_get (i := i) (List.nodup_cons.mp nd).2 (by simpa using h1) (by simpa using h2) hk
theorem bindC_get {kindOf : Str → Option NameKind} {x : Str} {v : Value} : ∀ {P : List Str} {vs : List Value} {i : Nat} {m : Str → Option Value}, P.Nodup → P[i]? = some x → vs[i]? = some v → kindOf x ≠ some .local →
    bindC kindOf (P.zip vs) m x = some v
  | [], _, _, _, _, h, _, _ => by simp at h
  | _ :: _, [], _, _, _, _, h, _ => by simp at h
  | p :: P, w :: vs, 0, m, nd, h1, h2, hk => by
    simp at h1 h2; subst h1; subst h2
    show bindC kindOf ((p, w) :: P.zip vs) m p = _
    unfold bindC
    rw [bindC_out fun v hv => (List.nodup_cons.mp nd).1 (List.of_mem_zip hv).1, if_neg hk]
    simp
  | p :: P, w :: vs, i + 1, m, nd, h1, h2, hk => by
    show bindC kindOf ((p, w) :: P.zip vs) m x = _
    unfold bindC
    exact bindC_get (i := i) (List.nodup_cons.mp nd).2 (by simpa using h1) (by simpa using h2) hk
noncomputable def start (N : List Str) (vs : List V) : St := vs.map some ++ List.replicate (N.length - vs.length) none
noncomputable def cxOf (CX : CXT) (P : Program) (w : World) (K : PySem.W.Frag) (mg : Str → Option Value) (base : Heap) (N : List Str) (qual : Str) (scope : Scope) (f : Addr) (cd : Value) (A : Around) (outer : List Env) (s : Shared) (H : Hp) (E : XK) : Cx where
  prog := P
  w := w
  K := K
  mg := mg
  base := base
  A := A.deeper (envOfC qual scope s.heap.objs.size f cd)
  N := N
  s₀ := s
  H₀ := H
  env := envOfC qual scope s.heap.objs.size f cd
  outer := outer
  stack := envOfC qual scope s.heap.objs.size f cd :: outer
  ex := []
  calm := true
  fn := fun _ => true
  pn := []
  xe := fun e s' => wpAny (model P w) (A.deeper (envOfC qual scope s.heap.objs.size f cd)) (leaving (envOfC qual scope s.heap.objs.size f cd) e) (fun _ s'' => CX outer H s E e s'') (fun e' s'' => CX outer H s E e' s'') s'
theorem cell_has {sc : Scope} {n : Nat} {x : Str} (h : sc.names.lookup x = some .cell) : ∃ c, (cellsFrom n sc.names []).lookup x = some c := by
  have q := PySem.W.cellsFrom_some sc.names n [] (.inl h)
  exact Option.isSome_iff_exists.mp q
theorem inv_start {CX : CXT} {P : Program} {w : World} {K : PySem.W.Frag} {mg : Str → Option Value} {base : Heap} {N ps : List Str} {qual : Str} {scope : Scope} {f : Addr} {cd : Value} {A : Around} {outer : List Env} {s s1 : Shared} {H : Hp} {E : XK} {us : List Value} {vs : List V}
    (S : FnScope N ps scope) (hd : A.handled = none) (e0 : Env0 P w K mg base A outer s H) (hl : vs.length = ps.length) (r : Vals vs us)
    (x : InCallC s s.heap.objs.size (bindL (envOfC qual scope s.heap.objs.size f cd).kindOf (ps.zip us) fun _ => none) (cellsFrom (s.heap.objs.size + 1) scope.names []) (bindC (envOfC qual scope s.heap.objs.size f cd).kindOf (ps.zip us) fun _ => none) s1) :
    Inv (cxOf CX P w K mg base N qual scope f cd A outer s H E) [] (start N vs) H s1 := by
  have hpl : ps.length ≤ N.length := by have := congrArg List.length S.pre; rw [List.length_take] at this; omega
  obtain ⟨h1, tk, rfl, hk⟩ := x.done
  have noA : ∀ b : Addr, b ∉ (cxOf CX P w K mg base N qual scope f cd A outer s H E).ex := fun b z => absurd (show b ∈ ([] : List Addr) from z) (by simp)
  refine ⟨⟨e0.mod, S.kind, rfl, rfl, Nat.le_refl _, fun y z c h1 h2 => ?_, fun y hy => ?_, fun y c _ h => ?_, fun _ => hd, Around.frames_deeper e0.frames, .inr ⟨rfl, rfl⟩, fun b z => absurd z (noA b), e0.bs, e0.bsz, fun b _ _ => noA b, fun b z => absurd z (noA b), e0.funs, e0.frf⟩,
    rfl, e0.bare, Un.kept hk, ⟨_, x.toInCall.ns, fun i y v h1 h2 h3 => ?_⟩, fun y c h => ⟨_, x.cell y c h⟩, e0.hok.fresh (Nat.le_refl _), fun y c h => ?_, fun p hp => absurd (show p ∈ ([] : List (Addr × Obj)) from hp) (by simp), e0.hok.kept hk, ?_⟩
  · exact name_of_addr x.apart (PySem.mem_of_lookup h1) (PySem.mem_of_lookup h2)
  · have hy : scope.names.lookup y = some .cell ∨ scope.names.lookup y = some .free := hy
    rcases hy with hy | hy
    · exact cell_has hy
    · exact absurd rfl (S.nofree _ (PySem.mem_of_lookup hy))
  · exact Nat.le_of_lt (x.above y c (PySem.mem_of_lookup h))
  · have hi : i < vs.length := by
      unfold start at h2
      by_cases hi : i < vs.length
      · exact hi
      · rw [List.getElem?_append_right (by simpa using hi)] at h2
        rw [List.getElem?_replicate] at h2
        split at h2 <;> cases h2
    have ha : vs[i]? = some v := by
      unfold start at h2
      rw [List.getElem?_append_left (by simpa using hi), List.getElem?_map] at h2
      cases e : vs[i]? with
      | none => rw [e] at h2; cases h2
      | some a => rw [e] at h2; cases h2; rfl
    obtain ⟨u, hu, rv⟩ := r.get ha
    have hp : ps[i]? = some y := by
      rw [← S.pre, List.getElem?_take_of_lt (by omega)]; exact h1
    have ndP : ps.Nodup := by rw [← S.pre]; exact S.nd.sublist (List.take_sublist _ _)
    refine ⟨u, rv, ?_⟩
    rcases S.par y (List.mem_of_getElem? hp) with k | k
    · exact .inl ⟨k, bindL_get ndP hp hu k⟩
    · obtain ⟨c, e⟩ := cell_has (n := s.heap.objs.size + 1) k
      refine .inr ⟨.inl k, c, e, ?_⟩
      have q := x.cell y c e
      rw [bindC_get ndP hp hu (by show scope.names.lookup y ≠ _; rw [k]; decide)] at q
      exact q
  · exact e0.hok.fresh (Nat.le_of_lt (x.above y c (PySem.mem_of_lookup h)))
  · unfold start
    show _ = N.length
    rw [List.length_append, List.length_map, List.length_replicate]
    omega
theorem fn_of {CX : CXT} {P : Program} {w : World} {K : PySem.W.Frag} {mg : Str → Option Value} {base : Heap} {k : Nat} {f : Addr} {name qual : Str} {params : Arguments} {body : List Stmt} {scope : Scope} {dV kV doc pm cdv ct oc : Value} {an od : Option Addr}
    {osl : Array (Option Value)} {N ps : List Str} {sp : Sp} (lk : K.lookup f = some ⟨oc, od, .func (PySem.W.fnOf name qual params body scope dV kV doc pm an cdv ct), osl⟩) (hcd : PySem.W.codeIn K cdv qual = true) (S : FnScope N ps scope)
    (len : ∀ vs H Q E, sp vs H Q E → vs.length = ps.length)
    (hbody : ∀ (A : Around) (outer : List Env) (s : Shared) (H : Hp) (vs : List V) (Q : VK) (E : XK), Room k (A.deeper (envOfC qual scope s.heap.objs.size f cdv)) → sp vs H Q E →
      ∃ t, PSs (cxOf CX P w K mg base N qual scope f cdv A outer s H E) body t ∧ t { nx := fun _ H' => Q .non H', rt := Q } (start N vs) H) :
    FnOk P w K mg base CX (k + 1) f (PySem.W.fnOf name qual params body scope dV kV doc pm an cdv ct) ps sp := by
  refine ⟨len, fun A outer s H args us vs Q E hr e0 hb r hsp => ?_⟩
  have hl := len _ _ _ _ hsp
  have KX : K.In s.heap := e0.mod.kin.keeps fun b o e => (e0.bs b o e).1
  have lim : s.heap.NoLimit := e0.mod.nolimit.keeps fun b o e => (e0.bs b o e).1
  have hkind : ∀ y ∈ ps.zip us, scope.names.lookup y.1 = some .local ∨ (scope.names.lookup y.1 = some .cell ∧ ((cellsFrom (s.heap.objs.size + 1) scope.names []).lookup y.1).isSome = true) := fun ⟨n, v⟩ hy => by
    rcases S.par n (List.of_mem_zip hy).1 with q | q
    · exact .inl q
    · exact .inr ⟨q, PySem.W.cellsFrom_some _ _ _ (.inl q)⟩
  refine codeAny_call_function hr.depth (KX _ _ lk) rfl S.co S.gen rfl (PySem.W.codeRec_of KX hcd) (hb _ _ _ _ ?_)
  refine wpAny_newFunctionEnv_cells S.kind hkind fun env he s1 x => ?_
  subst he
  refine ⟨lim.keeps x.toInCall.keep, codeAny_func ?_⟩
  obtain ⟨t, ht, hq⟩ := hbody A outer s H vs Q E (hr.deeper _) hsp
  have I : Inv (cxOf CX P w K mg base N qual scope f cdv A outer s H E) [] (start N vs) H s1 := inv_start S hr.hd e0 hl r x
  refine wpAny_mono (ht [] s1 (start N vs) H _ I hq) (fun fl s' hs => ?_) fun e s' hs => hs
  have fin : ∀ {σ' : St} {H' : Hp} {v : V} {u : Value}, Inv (cxOf CX P w K mg base N qual scope f cdv A outer s H E) [] σ' H' s' → RelV v u → Q v H' → CE outer P w H s Q u s' :=
    fun {σ' H' v u} J rv q => ⟨v, H', J.os, J.bare, J.base, J.hok, rv, q⟩
  cases fl with
  | ret u =>
    obtain ⟨v, σ', H', J, rv, q⟩ := hs
    exact fin J rv q
  | next =>
    obtain ⟨σ', H', J, q⟩ := hs
    exact fin (v := V.non) (u := Value.none) J rfl q
  | brk =>
    obtain ⟨_, _, _, q⟩ := hs
    exact False.elim q
  | cont =>
    obtain ⟨_, _, _, q⟩ := hs
    exact False.elim q
end L2
namespace L2
open PySem PySem.Spec PyProof.Rows
section
variable {X : Cx} {x : Str} {p pos : Pos} {e : Expr} {es : List Expr} {t : TA} {id T : String} {r : List V → Hp → VK → Prop}
noncomputable def tCB (r : List V → Hp → VK → Prop) (t : TA) : TE := fun σ H Q => t σ H fun vs H1 => r vs H1 Q
theorem pe_callB (hc : CallR X (.builtin id) r) (hg : Gl X x) (hm : X.mg x = none) (hv : bootBuiltins x = some (.builtin id)) (ha : PA X (e :: es) t) (hn : x ≠ "__name__" := by decide) (hdb : (x == ("__debug__" : Str)) = false := by decide)
    (he : starEach (e :: es) X.env = (false, eval e X.env) :: starEach es X.env := by rfl) (hpl : (backTo pos (starEach es X.env)).any (·.1) = false := by rfl) : PE X (.Call (.Name x p) (e :: es) [] pos) (tCB r t) := by
  intro pins s σ H Q I h
  refine wpAny_Call_Name_kw (ld_blt I hg hm hv ?_ hn hdb)
  exact PyProof.Rows.callWith_builtin1 (thn (ha pos pins s σ H _ I h) fun us s1 ⟨vs, H1, I1, r1, q1⟩ => hc pins s1 σ H1 vs us Q I1 r1 q1) he hpl
theorem pe_callTy (hc : CallR X (.type T) r) (hg : Gl X x) (hm : X.mg x = none) (hv : bootBuiltins x = some (.type T)) (ha : PA X (e :: es) t) (hn : x ≠ "__name__" := by decide) (hdb : (x == ("__debug__" : Str)) = false := by decide)
    (he : starEach (e :: es) X.env = (false, eval e X.env) :: starEach es X.env := by rfl) (hpl : (backTo pos (starEach es X.env)).any (·.1) = false := by rfl) : PE X (.Call (.Name x p) (e :: es) [] pos) (tCB r t) := by
  intro pins s σ H Q I h
  refine wpAny_Call_Name_kw (ld_blt I hg hm hv ?_ hn hdb)
  exact PyProof.Rows.callWith_type1 (thn (ha pos pins s σ H _ I h) fun us s1 ⟨vs, H1, I1, r1, q1⟩ => hc pins s1 σ H1 vs us Q I1 r1 q1) he hpl
end
end L2
namespace HT
open PySem PyProof.Rows
section
open PySem.SeqAt
open PySem.AutoSeq1 (wpAny_loadPart')
open PySem.MeetsSeq PySem.MeetsSeq2 PySem.MeetsSeq3
end
section
variable {prog : Program} {w : World} {A : Around} {E : Value → Shared → Prop} {s : Shared}
noncomputable def sIx (n d : Nat) : Option Int → Nat
  | none => d
  | some v => if v < 0 then (v + (n : Int)).toNat else min v.toNat n
theorem sIx_none (n d : Nat) : sIx n d none = d := rfl
theorem sIx_nat (n d k : Nat) : sIx n d (some (k : Int)) = min k n := by
  show (if (k : Int) < 0 then ((k : Int) + (n : Int)).toNat else min (k : Int).toNat n) = min k n
  rw [if_neg (by omega), Int.toNat_natCast]
end
end HT
namespace L2
open PySem PySem.Spec PyProof.Rows
noncomputable abbrev TO := St → Hp → (Option Int → Hp → Prop) → Prop
noncomputable def PO (X : Cx) (e : Option Expr) (t : TO) : Prop :=
  ∀ (pins : List (Addr × Obj)) (s : Shared) (σ : St) (H : Hp) (Q : Option Int → Hp → Prop), Inv X pins σ H s → t σ H Q →
    wpAny (model X.prog X.w) X.A (evalPart e X.env) (fun u s' => ∃ o H', Inv X pins σ H' s' ∧ IsPart u o ∧ Q o H') X.xe s
noncomputable def tNoPart : TO := fun _ H Q => Q none H
noncomputable def tPart (t : TE) : TO := fun σ H Q => t σ H fun x H1 => ∃ i, x = .int i ∧ Q (some i) H1
section
variable {X : Cx} {e : Expr} {te : TE} {lo hi : Option Expr} {tl th : TO} {pos p2 : Pos}
theorem po_none : PO X none tNoPart := by
  intro pins s σ H Q I h
  rw [evalPart_none]
  exact wpAny_pure ⟨none, H, I, .none, h⟩
theorem po_some (h : PE X e te) : PO X (some e) (tPart te) := by
  intro pins s σ H Q I hw
  rw [evalPart_some]
  refine thn (h pins s σ H _ I hw) fun u s1 ⟨x, H1, I1, r1, q1⟩ => ?_
  obtain ⟨i, rfl, q⟩ := q1
  obtain ⟨t, rfl⟩ := r1
  exact ⟨some i, H1, I1, .int i t, q⟩
noncomputable def SlR (X : Cx) (r : V → Option Int → Option Int → Hp → VK → Prop) : Prop :=
  ∀ (pins : List (Addr × Obj)) (s : Shared) (σ : St) (H : Hp) (x : V) (v vl vu : Value) (lo hi : Option Int) (sl : Addr) (Q : VK), Inv X pins σ H s → RelV x v → s.heap.IsSliceOf sl vl vu .none → IsPart vl lo → IsPart vu hi → r x lo hi H Q →
    ∃ T id, typeLookup (.type T) "__getitem__" = pure (some (.builtin id)) ∧ s.TypeIs v T ∧ wpAny (model X.prog X.w) X.A (getItem v (.ref sl)) (EP X pins σ Q) X.xe s
noncomputable def tSl (r : V → Option Int → Option Int → Hp → VK → Prop) (te : TE) (tl th : TO) : TE := fun σ H Q => te σ H fun x H1 => tl σ H1 fun l H2 => th σ H2 fun u H3 => r x l u H3 Q
theorem pe_slice {r : V → Option Int → Option Int → Hp → VK → Prop} (hr : SlR X r) (he : PE X e te) (hl : PO X lo tl) (hu : PO X hi th) : PE X (.Subscript e (.Slice lo hi none p2) pos) (tSl r te tl th) := by
  intro pins s σ H Q I h
  refine Subscript_ (thn (he pins s σ H _ I h) fun v s1 ⟨x, H1, I1, r1, q1⟩ => ?_)
  refine wpAny_Slice (thn (hl pins s1 σ H1 _ I1 q1) fun vl s2 ⟨l, H2, I2, pl, q2⟩ => thn (hu pins s2 σ H2 _ I2 q2) fun vu s3 ⟨u, H3, I3, pu, q3⟩ => ?_)
  rw [evalPart_none]
  refine wpAny_pure ?_
  have I4 : Inv X pins σ H3 { s3 with heap := s3.heap.push { cls := .type "slice", data := .fields #[vl, vu, .none] } } := I3.kept (t' := s3.toks) fun b ob q => Heap.get?_push_of_some _ q
  obtain ⟨T, id, hT, ht, hg⟩ := hr pins { s3 with heap := s3.heap.push { cls := .type "slice", data := .fields #[vl, vu, .none] } } σ H3 x v vl vu l u s3.heap.objs.size Q I4 r1 (Heap.IsSliceOf.new ..) pl pu q3
  show wpAny (model X.prog X.w) X.A (subscriptTail e (.Slice lo hi none p2) v (.ref s3.heap.objs.size)) (EP X pins σ Q) X.xe { s3 with heap := s3.heap.push { cls := .type "slice", data := .fields #[vl, vu, .none] } }
  exact tail_any (ops := [.ref s3.heap.objs.size, v]) ht hT hg (by with_unfolding_all rfl)
noncomputable def cutV (xs : List V) (lo hi : Option Int) : List V := (xs.drop (HT.sIx xs.length 0 lo)).take (HT.sIx xs.length xs.length hi - HT.sIx xs.length 0 lo)
theorem cutV_length (xs : List V) (lo hi : Option Int) : (cutV xs lo hi).length ≤ xs.length := by
  unfold cutV
  rw [List.length_take, List.length_drop]
  omega
end
end L2
namespace L2
open PySem PySem.Spec PyProof.Rows
noncomputable def ixN (n : Nat) (i : Int) : Option Nat := if 0 ≤ i then (if i < n then some i.toNat else none) else if -(n : Int) ≤ i then some (i + n).toNat else none
noncomputable def atI {α : Type} (xs : List α) (i : Int) : Option α := (ixN xs.length i).bind fun j => xs[j]?
theorem ixN_seq {n : Nat} {i : Int} {j : Nat} (h : ixN n i = some j) : seqIndex? i n = some j ∧ j < n ∧ -(n : Int) ≤ i ∧ i < n := by
  unfold ixN at h
  by_cases h0 : 0 ≤ i
  · rw [if_pos h0] at h
    by_cases h1 : i < n
    · rw [if_pos h1] at h
      have e : i.toNat = j := Option.some.inj h
      exact ⟨by rw [seqIndex_of h0 h1, e], by omega, by omega, h1⟩
    · rw [if_neg h1] at h; cases h
  · rw [if_neg h0] at h
    by_cases h1 : -(n : Int) ≤ i
    · rw [if_pos h1] at h
      have e : (i + n).toNat = j := Option.some.inj h
      exact ⟨by rw [seqIndex_neg (by omega) h1, e], by omega, h1, by omega⟩
    · rw [if_neg h1] at h; cases h
theorem atI_get {α : Type} {xs : List α} {i : Int} {v : α} (h : atI xs i = some v) : ∃ j, seqIndex? i xs.length = some j ∧ xs[j]? = some v ∧ j < xs.length ∧ -(xs.length : Int) ≤ i ∧ i < xs.length := by
  unfold atI at h
  cases e : ixN xs.length i with
  | none => rw [e] at h; cases h
  | some j =>
    rw [e] at h
    obtain ⟨h1, h2, h3, h4⟩ := ixN_seq e
    exact ⟨j, h1, h, h2, h3, h4⟩
theorem atI_nat {α : Type} {xs : List α} {j : Nat} {v : α} (h : xs[j]? = some v) : atI xs (j : Int) = some v := by
  have hj : j < xs.length := (List.getElem?_eq_some_iff.mp h).1
  have e : ixN xs.length (j : Int) = some j := by
    unfold ixN
    rw [if_pos (by omega), if_pos (by omega)]; simp
  unfold atI; rw [e]; exact h
noncomputable def PlainIx (b : Expr) : Prop := ∀ o i, subscripted b false o i = operate [o, i] (getItem o i)
noncomputable def IxR (X : Cx) (r : R2) : Prop :=
  ∀ (value slice : Expr) (pins : List (Addr × Obj)) (s : Shared) (σ : St) (H : Hp) (x y : V) (v u : Value) (Q : VK), Inv X pins σ H s → RelV x v → RelV y u → r x y H Q →
    subscripted slice false v u = operate [v, u] (getItem v u) → wpAny (model X.prog X.w) X.A (subscriptTail value slice v u) (EP X pins σ Q) X.xe s
noncomputable def MtR (X : Cx) (id : String) (r : V → List V → Hp → VK → Prop) : Prop :=
  ∀ (pins : List (Addr × Obj)) (s : Shared) (σ : St) (H : Hp) (x : V) (xs : List V) (v : Value) (us : List Value) (Q : VK), Inv X pins σ H s → RelV x v → Vals xs us → r x xs H Q →
    wpAny (model X.prog X.w) X.A (call (.builtin id) (v :: us)) (EP X pins σ Q) X.xe s
section
variable {X : Cx} {a b : Expr} {ta tb : TE} {pos : Pos}
theorem pe_ix {r : R2} (hr : IxR X r) (ha : PE X a ta) (hb : PE X b tb) (hs : PlainIx b) : PE X (.Subscript a b pos) (tOp r ta tb) := by
  intro pins s σ H Q I h
  exact Subscript_ (binT ha hb I h fun v u s2 x y H2 I2 rx ry q => hr a b pins s2 σ H2 x y v u Q I2 rx ry q (hs _ _))
noncomputable def rIxL (K : PySem.W.Frag) : R2 := fun x y H Q => ∃ p xs i v, x = .ref p ∧ y = .int i ∧ SqL K H p xs ∧ atI xs i = some v ∧ Q v H
noncomputable def rIxT (K : PySem.W.Frag) : R2 := fun x y H Q => ∃ p xs i v, x = .ref p ∧ y = .int i ∧ SqT K H p xs ∧ atI xs i = some v ∧ Q v H
theorem ix_list : IxR X (rIxL X.K) := by
  intro value slice pins s σ H x y v u Q I rx ry h hs
  obtain ⟨p, xs, i, z, rfl, rfl, hq, he, q⟩ := h
  cases rx
  obtain ⟨t, rfl⟩ := ry
  obtain ⟨its, r, pl, hz⟩ := I.list hq
  obtain ⟨j, h1, h2, h3, h4, h5⟩ := atI_get he
  obtain ⟨w, ew, rw'⟩ := r.get h2
  have hl := r.length
  have hn := line63
  have fin : EP X pins σ Q w s := ⟨z, H, I, rw', q⟩
  by_cases h0 : 0 ≤ i
  · have hj : i.toNat = j := by
      rw [seqIndex_of h0 h5] at h1
      exact Option.some.inj h1
    exact item_listR pl.isList h0 (by omega) (by rw [hj]; simpa using ew) fin hs
  · have hj : (i + (its.toArray.size : Int)).toNat = j := by
      rw [seqIndex_neg (by omega) h4] at h1
      rw [List.size_toArray, ← hl]
      exact Option.some.inj h1
    exact subscriptTail_builtinR (x := w) pl.isList.typeIs slot_list_getitem.lookup
      (wpAny_getItem_list_neg (Q := fun r s' => r = w ∧ EP X pins σ Q r s') pl.isList (by omega) (by rw [List.size_toArray] <;> omega) (by omega) (by rw [hj]; simpa using ew) ⟨rfl, fin⟩) hs
theorem ix_tup : IxR X (rIxT X.K) := by
  intro value slice pins s σ H x y v u Q I rx ry h hs
  obtain ⟨p, xs, i, z, rfl, rfl, hq, he, q⟩ := h
  cases rx
  obtain ⟨t, rfl⟩ := ry
  obtain ⟨its, r, pl, hz⟩ := I.tuple hq
  obtain ⟨j, h1, h2, h3, h4, h5⟩ := atI_get he
  obtain ⟨w, ew, rw'⟩ := r.get h2
  have hl := r.length
  have hn := line63
  have fin : EP X pins σ Q w s := ⟨z, H, I, rw', q⟩
  exact subscriptTail_builtinR (x := w) pl.typeIs slot_tuple_getitem.lookup
    (getItem_tuple (j := j) (Q := fun r s' => r = w ∧ EP X pins σ Q r s') pl (by omega) (by omega) (by rw [List.size_toArray, ← hl]; exact h1) (by simpa using ew) ⟨rfl, fin⟩) hs
theorem mapSeq_set (its : List Value) (n j : Nat) (u : Value) : Obj.mapSeq (·.setIfInBounds j u) { cls := .type "list", data := .seq its.toArray n } = { cls := .type "list", data := .seq (its.set j u).toArray n } := by
  simp [Obj.mapSeq]
theorem Inv.lst {pins : List (Addr × Obj)} {σ : St} {H : Hp} {s : Shared} {p : Addr} {xs : List V} (I : Inv X pins σ H s) (h : H p = some (.lst xs)) :
    ∃ (its : List Value) (n : Nat), Vals xs its ∧ s.heap.get? p = some { cls := .type "list", data := .seq its.toArray n } ∧ xs.length ≤ sizeLine := by
  obtain ⟨z, its, n, r, e⟩ := I.hok p _ h
  exact ⟨its, n, r, e, z⟩
theorem Inv.lstUpd {pins : List (Addr × Obj)} {σ : St} {H : Hp} {s : Shared} {p : Addr} {xs ys : List V} {its its' : List Value} {n n' : Nat} {f : Obj → Obj} (I : Inv X pins σ H s) (h : H p = some (.lst xs))
    (ho : s.heap.get? p = some { cls := .type "list", data := .seq its.toArray n }) (hf : f { cls := .type "list", data := .seq its.toArray n } = { cls := .type "list", data := .seq its'.toArray n' }) (r : Vals ys its') (hz : ys.length ≤ sizeLine) (t : Nat) :
    Inv X pins σ (upd H p (.lst ys)) { s with heap := s.heap.update p f, toks := t } := by
  have e : (s.heap.update p f).get? p = some { cls := .type "list", data := .seq its'.toArray n' } := by
    rw [Heap.get?_update_self f ho (by rw [hf] <;> rfl), hf]
  refine I.write (x := p) (e := p) (by rw [h]; trivial) (.inl rfl) (fun b u hb q => (Heap.get?_update_other _ _ (Ne.symm hb)).trans q) ⟨_, e⟩ ?_
  exact ⟨hz, its', n', r, e⟩
noncomputable def rSetL : V → V → V → Hp → (Hp → Prop) → Prop := fun o i v H Q => ∃ p xs k j, o = .ref p ∧ i = .int k ∧ H p = some (.lst xs) ∧ ixN xs.length k = some j ∧ Q (upd H p (.lst (xs.set j v)))
theorem set_list : PSet X rSetL := by
  intro pins s σ H o i v ov iv u Q I ro ri rv h
  obtain ⟨p, xs, k, j, rfl, rfl, hp, hj, q⟩ := h
  cases ro
  obtain ⟨t, rfl⟩ := ri
  obtain ⟨its, n, r, ho, hz⟩ := I.lst hp
  obtain ⟨h1, h2, h3, h4⟩ := ixN_seq hj
  have hl := r.length
  have hn := line63
  have I' : Inv X pins σ (upd H p (.lst (xs.set j v))) { s with heap := s.heap.update p (Obj.mapSeq (·.setIfInBounds j u)) } :=
    I.lstUpd hp ho (mapSeq_set its n j u) (r.set rv j) (by rw [List.length_set]; exact hz) s.toks
  by_cases h0 : 0 ≤ k
  · have hk : k.toNat = j := by
      rw [seqIndex_of h0 h4] at h1
      exact Option.some.inj h1
    exact PySem.W.ki_setAt ho h0 (by omega) (by rw [List.size_toArray, ← hl]; exact h4) (by rw [hk]; exact ⟨_, I', q⟩)
  · have hk : (k + (its.toArray.size : Int)).toNat = j := by
      rw [seqIndex_neg (by omega) h3] at h1
      rw [List.size_toArray, ← hl]
      exact Option.some.inj h1
    exact PySem.W.ki_setBack ho (by omega) (by rw [List.size_toArray, ← hl]; exact h3) (by omega) (by rw [hk]; exact ⟨_, I', q⟩)
theorem slice_bounds (lo hi : Option Int) (n : Nat) : (sliceBounds lo hi none n).1 = ((HT.sIx n 0 lo : Nat) : Int) ∧ (sliceBounds lo hi none n).2.1 = ((HT.sIx n n hi : Nat) : Int) ∧ (sliceBounds lo hi none n).2.2 = 1 := by
  refine ⟨?_, ?_, rfl⟩
  · cases lo with
    | none => simp [sliceBounds, HT.sIx]
    | some i =>
      simp only [sliceBounds, HT.sIx, Option.getD_none, show (1 : Int) > 0 by decide, if_true]
      by_cases h : i < 0
      · simp only [h, if_true] <;> omega
      · simp only [h, if_false] <;> omega
  · cases hi with
    | none => simp [sliceBounds, HT.sIx]
    | some i =>
      simp only [sliceBounds, HT.sIx, Option.getD_none, show (1 : Int) > 0 by decide, if_true]
      by_cases h : i < 0
      · simp only [h, if_true] <;> omega
      · simp only [h, if_false] <;> omega
theorem slicePick_cut (its : List Value) (lo hi : Option Int) : slicePick its.toArray lo hi none = ((its.drop (HT.sIx its.length 0 lo)).take (HT.sIx its.length its.length hi - HT.sIx its.length 0 lo)).toArray := by
  obtain ⟨h1, h2, h3⟩ := slice_bounds lo hi its.toArray.size
  unfold slicePick
  rw [h1, h2, h3]
  simp only [sliceRange_one, pick_run, List.size_toArray] <;> rfl
noncomputable def rSlL (K : PySem.W.Frag) : V → Option Int → Option Int → Hp → VK → Prop := fun x lo hi H Q => ∃ a xs, x = .ref a ∧ SqL K H a xs ∧ ∀ p, H p = none → Q (.ref p) (upd H p (.lst (cutV xs lo hi)))
theorem sl_list : SlR X (rSlL X.K) := by
  intro pins s σ H x v vl vu lo hi sl Q I rx hs pl pu h
  obtain ⟨a, xs, rfl, hx, q⟩ := h
  cases rx
  obtain ⟨its, r, ht, hz⟩ := I.list hx
  have hlen := r.length
  refine ⟨"list", _, slot_list_getitem.lookup, ht.isList.typeIs, ?_⟩
  refine wpAny_getItem_list_slice ht.isList hs pl pu .none (by simp) ?_ (by rw [List.size_toArray] <;> omega)
  rw [slicePick_cut, ← hlen]
  refine ⟨.ref s.heap.objs.size, _, I.laid (t' := s.toks) (o := .lst (cutV xs lo hi)) (fun b ob q => Heap.get?_push_of_some _ q) (Nat.le_refl _) ?_, rfl, q _ (I.hok.fresh (Nat.le_refl _))⟩
  exact ⟨Nat.le_trans (cutV_length xs lo hi) hz, _, 0, (r.drop (HT.sIx xs.length 0 lo)).take (HT.sIx xs.length xs.length hi - HT.sIx xs.length 0 lo), Heap.get?_push_size _ rfl⟩
noncomputable def flatV : V → Bool
  | .non => true
  | .bl _ => true
  | .int _ => true
  | .str _ => true
  | _ => false
noncomputable def eqV : V → V → Bool
  | .non, .non => true
  | .bl a, .bl b => a == b
  | .bl a, .int b => (if a then 1 else 0) == b
  | .int a, .bl b => a == (if b then 1 else 0)
  | .int a, .int b => a == b
  | .str a, .str b => a == b
  | _, _ => false
theorem eqAt_V {A : Around} {s : Shared} {y x : V} {u v : Value} (ry : RelV y u) (rx : RelV x v) (fy : flatV y = true) (fx : flatV x = true) : SeqAt.EqAt A s u v (eqV y x) := by
  cases y with
  | non =>
    cases ry
    cases x with
    | non => cases rx; exact SeqAt.EqAt.same _
    | bl b => cases rx; exact SeqAt.EqAt.none_bool b
    | int b => obtain ⟨t, rfl⟩ := rx; exact SeqAt.EqAt.none_int b t
    | str b => obtain ⟨t, rfl⟩ := rx; exact SeqAt.EqAt.none_str b t
    | _ => exact absurd (show false = true from fx) Bool.false_ne_true
  | bl a =>
    cases ry
    cases x with
    | non => cases rx; exact SeqAt.EqAt.bool_none a
    | bl b => cases rx; exact SeqAt.EqAt.bool_bool a b
    | int b => obtain ⟨t, rfl⟩ := rx; exact SeqAt.EqAt.bool_int a b t
    | str b => obtain ⟨t, rfl⟩ := rx; exact SeqAt.EqAt.bool_str a b t
    | _ => exact absurd (show false = true from fx) Bool.false_ne_true
  | int a =>
    obtain ⟨t', rfl⟩ := ry
    cases x with
    | non => cases rx; exact SeqAt.EqAt.int_none a t'
    | bl b => cases rx; exact SeqAt.EqAt.int_bool a t' b
    | int b => obtain ⟨t, rfl⟩ := rx; exact SeqAt.EqAt.int_int a t' b t
    | str b => obtain ⟨t, rfl⟩ := rx; exact SeqAt.EqAt.int_str a t' b t
    | _ => exact absurd (show false = true from fx) Bool.false_ne_true
  | str a =>
    obtain ⟨t', rfl⟩ := ry
    cases x with
    | non => cases rx; exact SeqAt.EqAt.str_none a t'
    | bl b => cases rx; exact SeqAt.EqAt.str_bool a t' b
    | int b => obtain ⟨t, rfl⟩ := rx; exact SeqAt.EqAt.str_int a t' b t
    | str b => obtain ⟨t, rfl⟩ := rx; exact SeqAt.EqAt.str_str a t' b t
    | _ => exact absurd (show false = true from fx) Bool.false_ne_true
  | _ => exact absurd (show false = true from fy) Bool.false_ne_true
theorem call_len_seq : CallR X (.builtin "len") (fun xs H Q => ∃ p ys, xs = [.ref p] ∧ (SqL X.K H p ys ∨ SqT X.K H p ys) ∧ Q (.int ys.length) H) := by
  intro pins s σ H xs us Q I r h
  obtain ⟨p, ys, rfl, hq, q⟩ := h
  obtain ⟨u, rfl, rx⟩ := vals1 r
  cases rx
  have hn := line63
  rcases hq with hq | hq
  · obtain ⟨its, r', pl, hz⟩ := I.list hq
    have hlen := r'.length
    exact Calls.call_len_list pl.isList (by simp only [List.size_toArray] <;> omega) ⟨.int ys.length, H, I.tok _, ⟨s.toks + 1, by rw [List.size_toArray, hlen]⟩, q⟩
  · obtain ⟨its, r', pl, hz⟩ := I.tuple hq
    have hlen := r'.length
    exact len_tuple pl (by simp only [List.size_toArray] <;> omega) ⟨.int ys.length, H, I.tok _, ⟨s.toks + 1, by rw [List.size_toArray, hlen]⟩, q⟩
theorem call_list_of : CallR X (.type "list") (fun xs H Q => ∃ p ys, xs = [.ref p] ∧ (SqL X.K H p ys ∨ SqT X.K H p ys) ∧ ∀ l, H l = none → Q (.ref l) (upd H l (.lst ys))) := by
  intro pins s σ H xs us Q I r h
  obtain ⟨p, ys, rfl, hq, q⟩ := h
  obtain ⟨u, rfl, rx⟩ := vals1 r
  cases rx
  have fin : ∀ (its : List Value), Vals ys its → ys.length ≤ sizeLine → ∀ (h' : Heap) (c' : Nat), (∀ b o', s.heap.get? b = some o' → h'.get? b = some o') →
      h'.get? s.heap.objs.size = some { cls := .type "list", dict := none, data := .seq its.toArray c', slots := #[] } → EP X pins σ Q (.ref s.heap.objs.size) { s with heap := h' } := fun its r' hz h' c' kp e =>
    ⟨.ref s.heap.objs.size, _, I.laid (t' := s.toks) kp (Nat.le_refl _) (show ObjOk X.prog X.w _ h' _ (.lst ys) from ⟨hz, its, c', r', e⟩), rfl, q _ (I.hok.fresh (Nat.le_refl _))⟩
  rcases hq with hq | hq
  · obtain ⟨its, r', pl, hz⟩ := I.list hq
    have hlen := r'.length
    obtain ⟨o, ho, hc, n, hd⟩ := pl.isList
    exact call_list_seq p (.inl rfl) ho hc hd (fun h' c' kp e => fin its r' hz h' c' kp e) (by simp only [List.size_toArray] <;> omega)
  · obtain ⟨its, r', pl, hz⟩ := I.tuple hq
    have hlen := r'.length
    obtain ⟨o, ho, hc, n, hd⟩ := pl
    exact call_list_seq p (.inr rfl) ho hc hd (fun h' c' kp e => fin its r' hz h' c' kp e) (by simp only [List.size_toArray] <;> omega)
noncomputable def tyV (K : PySem.W.Frag) (T : String) (x : V) (H : Hp) : Prop := match x with
  | .str _ => T = "str"
  | .int _ => T = "int"
  | .ref p => (T = "list" ∧ ∃ xs, SqL K H p xs) ∨ (T = "tuple" ∧ ∃ o, K.lookup p = some o ∧ o.cls = .type "tuple" ∧ o.dict = none) ∨
      (T = "dict" ∧ ((∃ kvs, H p = some (.dK kvs)) ∨ ∃ kvs, H p = some (.dT kvs))) ∨ (T = "set" ∧ ∃ S n, H p = some (.set S n))
  | _ => False
theorem tyV_is {pins : List (Addr × Obj)} {σ : St} {H : Hp} {s : Shared} {T : String} {x : V} {v : Value} (I : Inv X pins σ H s) (r : RelV x v) (ty : tyV X.K T x H) :
    s.TypeIs v T ∧ ∀ a, v = .ref a → ∃ ob, s.heap.get? a = some ob ∧ ob.dict = none := by
  cases x with
  | str z =>
    obtain ⟨t, rfl⟩ := r
    cases (show T = "str" from ty)
    exact ⟨typeIs_str s z t, fun _ e => nomatch e⟩
  | int i =>
    obtain ⟨t, rfl⟩ := r
    cases (show T = "int" from ty)
    exact ⟨typeIs_int s i t, fun _ e => nomatch e⟩
  | ref p =>
    cases r
    rcases ty with ⟨rfl, xs, hq⟩ | ⟨rfl, o, hk, hc, hd⟩ | ⟨rfl, hk⟩ | ⟨rfl, S, n, hk⟩
    · obtain ⟨its, _, pl, _⟩ := I.list hq
      refine ⟨pl.isList.typeIs, fun a e => ?_⟩
      cases e
      obtain ⟨o, n, e, c, hd, _⟩ := pl
      exact ⟨o, e, hd⟩
    · refine ⟨⟨o, I.kIn p o hk, hc⟩, fun a e => ?_⟩
      cases e
      exact ⟨o, I.kIn _ o hk, hd⟩
    · have z : ∃ o, s.heap.get? p = some o ∧ o.ExactDict := by
        rcases hk with ⟨kvs, hk⟩ | ⟨kvs, hk⟩
        · obtain ⟨_, _, _, _, o, _, _, e, ex, _⟩ := I.hok p _ hk
          exact ⟨o, e, ex⟩
        · obtain ⟨_, _, _, _, o, _, _, e, ex, _⟩ := I.hok p _ hk
          exact ⟨o, e, ex⟩
      obtain ⟨o, e, ex⟩ := z
      refine ⟨⟨o, e, ex.1⟩, fun a e2 => ?_⟩
      cases e2
      exact ⟨o, e, ex.2.1⟩
    · obtain ⟨o, _, _, _, e, ex, _⟩ := I.hok p _ hk
      refine ⟨⟨o, e, ex.1⟩, fun a e2 => ?_⟩
      cases e2
      exact ⟨o, e, ex.2.1⟩
  | _ => exact False.elim ty
noncomputable def tBM0 (K : PySem.W.Frag) (T : String) (r : V → List V → Hp → VK → Prop) (to : TE) : TE := fun σ H Q => to σ H fun x H1 => tyV K T x H1 ∧ r x [] H1 Q
noncomputable def tBM (K : PySem.W.Frag) (T : String) (r : V → List V → Hp → VK → Prop) (to : TE) (t : TA) : TE := fun σ H Q => to σ H fun x H1 => tyV K T x H1 ∧ t σ H1 fun xs H2 => r x xs H2 Q
variable {o e : Expr} {es : List Expr} {to : TE} {t : TA} {name : Str} {apos cpos : Pos} {T id : String} {r : V → List V → Hp → VK → Prop}
theorem pe_bm0 (pa : PlainAttrs T) (slot : Slot T name id) (hty : typeOf (.builtin id) = pure (.type "method_descriptor")) (hm : MtR X id r) (ho : PE X o to)
    (hbase : attributeBase o name X.env (eval o X.env) = eval o X.env := by rfl) (hline : (apos.endLine == cpos.line) = true := by rfl) : PE X (.Call (.Attribute o name apos) [] [] cpos) (tBM0 X.K T r to) := by
  intro pins s σ H Q I h
  refine wpAny_Call_method0_late hbase hline (thn (ho pins s σ H _ I h) fun v s1 ⟨x, H1, I1, r1, ty, q1⟩ => ?_)
  obtain ⟨h1, h2⟩ := tyV_is I1 r1 ty
  exact ⟨T, id, pa, slot, hty, h1, h2, Calls.callWith_builtin rfl (PySem.evalArgs_none (hm pins s1 σ H1 x [] v [] Q I1 r1 .nil q1))⟩
theorem pe_bm (pa : PlainAttrs T) (slot : Slot T name id) (hty : typeOf (.builtin id) = pure (.type "method_descriptor")) (hm : MtR X id r) (ho : PE X o to) (ha : PA X (e :: es) t)
    (hbase : attributeBase o name X.env (eval o X.env) = eval o X.env := by rfl)
    (hfew : ((backTo cpos (starEach (e :: es) X.env)).all (fun x => !x.1) && (backToKw cpos (keywordEach [] X.env)).all (fun x => x.1.isSome)
      && decide ((e :: es).length + ([] : List Keyword).length + (if ([] : List Keyword).isEmpty then 0 else 1) < 30)) = true := by rfl)
    (hline : (apos.endLine == cpos.line) = true := by rfl) (hs : starEach (e :: es) X.env = (false, eval e X.env) :: starEach es X.env := by rfl) (hplain : (backTo cpos (starEach es X.env)).any (·.1) = false := by rfl) :
    PE X (.Call (.Attribute o name apos) (e :: es) [] cpos) (tBM X.K T r to t) := by
  intro pins s σ H Q I h
  refine wpAny_Call_method_late hbase hfew hline rfl (thn (ho pins s σ H _ I h) fun v s1 ⟨x, H1, I1, r1, ty, q1⟩ => ?_)
  obtain ⟨h1, h2⟩ := tyV_is I1 r1 ty
  refine ⟨T, id, pa, slot, hty, h1, h2, ?_⟩
  have hA := ha cpos pins s1 σ H1 _ I1 q1
  rw [hs] at hA ⊢
  refine Calls.callWith_builtin (by show (false || (backTo cpos (starEach es X.env)).any (·.1)) = false; rw [hplain] <;> rfl) (Calls.evalArgs_plain ?_)
  exact thn hA fun us s2 ⟨vs, H2, I2, r2, q2⟩ => hm pins s2 σ H2 x vs v us Q I2 r1 r2 q2
end
end L2
namespace L2
open PySem PySem.Spec PyProof.Rows
noncomputable def MtM (X : Cx) (id : String) (r : V → List V → Hp → VK → Prop) : Prop :=
  ∀ (pins : List (Addr × Obj)) (s : Shared) (σ : St) (H : Hp) (x : V) (xs : List V) (v : Value) (us : List Value) (Q : VK), Inv X pins σ H s → RelV x v → Vals xs us → r x xs H Q →
    wpAny (model X.prog X.w) X.A (call (.builtin id) (v :: us)) (EP X pins σ Q) X.xe s
theorem Vals.one : ∀ {x : V} {us : List Value}, Vals [x] us → ∃ u, us = [u] ∧ RelV x u
  | _, _, .cons r .nil => ⟨_, rfl, r⟩
theorem Vals.zero : ∀ {us : List Value}, Vals [] us → us = []
  | _, .nil => rfl
theorem Vals.dropLast {xs : List V} {us : List Value} (h : Vals xs us) : Vals xs.dropLast us.dropLast := by
  induction h with
  | nil => exact .nil
  | cons r t ih =>
    cases t with
    | nil => exact .nil
    | cons q t' => exact .cons r ih
theorem Vals.eraseIdx : ∀ {xs : List V} {us : List Value} (i : Nat), Vals xs us → Vals (xs.eraseIdx i) (us.eraseIdx i)
  | _, _, _, .nil => .nil
  | _, _, 0, .cons _ t => t
  | _, _, i + 1, .cons r t => .cons r (Vals.eraseIdx i t)
theorem erase_last {α : Type} (l : List α) : l.eraseIdx (l.length - 1) = l.dropLast := by
  induction l with
  | nil => rfl
  | cons a r ih =>
    cases r with
    | nil => rfl
    | cons b r =>
      have e : (a :: b :: r).length - 1 = ((b :: r).length - 1) + 1 := by
        have h1 : (a :: b :: r).length = r.length + 2 := rfl
        have h2 : (b :: r).length = r.length + 1 := rfl
        omega
      rw [e, List.eraseIdx_cons_succ, ih]
      all_goals rfl
theorem len_erase {α : Type} : ∀ (l : List α) (i : Nat), (l.eraseIdx i).length ≤ l.length
  | [], _ => Nat.le_refl _
  | _ :: _, 0 => Nat.le_succ _
  | _ :: r, i + 1 => Nat.succ_le_succ (len_erase r i)
section
variable {X : Cx} {pins : List (Addr × Obj)} {σ : St} {H : Hp} {s : Shared} {l b : Addr} {xs ys zs : List V}
theorem Inv.lset {its its' : List Value} {n : Nat} {f : Array Value → Array Value} {t' : Nat} (I : Inv X pins σ H s) (hH : H l = some (.lst xs))
    (e : s.heap.get? l = some { cls := .type "list", data := .seq its.toArray n }) (hf : f its.toArray = its'.toArray) (hv : Vals ys its') (hz : ys.length ≤ sizeLine) :
    Inv X pins σ (upd H l (.lst ys)) { s with heap := s.heap.update l (Obj.mapSeq f), toks := t' } := by
  have q := PySem.IsL.update e f
  rw [hf] at q
  refine I.write (x := l) (e := l) (by rw [hH]; exact trivial) (.inl rfl) (fun b' u hb hu => (Heap.get?_update_other s.heap (Obj.mapSeq f) (Ne.symm hb)).trans hu) ⟨_, q⟩ ?_
  exact ⟨hz, its', _, hv, q⟩
theorem Inv.lnew {its : List Value} {t' : Nat} (I : Inv X pins σ H s) (hv : Vals ys its) (hz : ys.length ≤ sizeLine) :
    Inv X pins σ (upd H s.heap.objs.size (.lst ys)) { s with heap := s.heap.push { cls := .type "list", data := .seq its.toArray }, toks := t' } :=
  I.laid (fun _ _ q => Heap.get?_push_of_some _ q) (Nat.le_refl _) ⟨hz, its, 0, hv, Heap.get?_push_size _ rfl⟩
theorem Inv.fresh (I : Inv X pins σ H s) : H s.heap.objs.size = none := I.hok.fresh (Nat.le_refl _)
theorem Inv.lstM (I : Inv X pins σ H s) (hH : H l = some (.lst xs)) : xs.length ≤ sizeLine ∧ ∃ (its : List Value) (n : Nat), Vals xs its ∧ xs.length = its.length ∧ s.heap.get? l = some { cls := .type "list", data := .seq its.toArray n } := by
  obtain ⟨z, its, n, r, e⟩ := I.hok l _ hH
  exact ⟨z, its, n, r, r.length, e⟩
theorem notLongL {n : Nat} (h : n ≤ sizeLine) : Builtin.List.listTooLong n = false := by
  unfold Builtin.List.listTooLong
  exact decide_eq_false (by omega)
end
section
variable {X : Cx}
noncomputable def rAppend : V → List V → Hp → VK → Prop := fun x vs H Q => ∃ l xs y, x = .ref l ∧ vs = [y] ∧ H l = some (.lst xs) ∧ xs.length < sizeLine ∧ Q .non (upd H l (.lst (xs ++ [y])))
theorem mt_append : MtM X "list.append" rAppend := by
  intro pins s σ H x vs v us Q I rx rv h
  obtain ⟨l, xs, y, rfl, rfl, hH, hz, q⟩ := h
  cases rx
  obtain ⟨u, rfl, ru⟩ := rv.one
  obtain ⟨z, its, n, r, hl, e⟩ := I.lstM hH
  refine call_meets F.slot_list_append ⟨_, e, rfl⟩ F.entry_list_append (F.args_list_append_2 _ _) (PySem.list_append l its.toArray n u (by rw [List.size_toArray]; omega)) ⟨e, ?_⟩
  refine ⟨.non, _, I.lset (its' := its ++ [u]) hH e (by simp) (r.append (.cons ru .nil)) ?_, rfl, q⟩
  rw [List.length_append, List.length_singleton]
  omega
noncomputable def rExtend : V → List V → Hp → VK → Prop := fun x vs H Q => ∃ l b xs zs, x = .ref l ∧ vs = [.ref b] ∧ H l = some (.lst xs) ∧ H b = some (.lst zs) ∧ xs.length + zs.length ≤ sizeLine ∧ Q .non (upd H l (.lst (xs ++ zs)))
theorem mt_extend : MtM X "list.extend" rExtend := by
  intro pins s σ H x vs v us Q I rx rv h
  obtain ⟨l, b, xs, zs, rfl, rfl, hH, hB, hz, q⟩ := h
  cases rx
  obtain ⟨u, rfl, ru⟩ := rv.one
  cases ru
  obtain ⟨z, its, n, r, hl, e⟩ := I.lstM hH
  obtain ⟨z2, its2, n2, r2, hl2, e2⟩ := I.lstM hB
  have hsz : its.toArray.size + its2.toArray.size ≤ sizeLine := by rw [List.size_toArray, List.size_toArray]; omega
  have hlong : ¬ (!its.toArray.isEmpty && Builtin.List.listTooLong (its.toArray.size + its2.toArray.size)) = true := by
    rw [notLongL hsz, Bool.and_false]
    exact Bool.false_ne_true
  refine call_meets F.slot_list_extend ⟨_, e, rfl⟩ F.entry_list_extend (F.args_list_extend_2 _ _)
    (AutoSeq1.list_extend_list_list_0 l its.toArray n b its2.toArray n2 hlong (by rw [List.size_toArray]; omega) (by omega)) ⟨e, e2, ?_⟩
  refine ⟨.non, _, I.lset (its' := its ++ its2) hH e (by simp) (r.append r2) ?_, rfl, q⟩
  rw [List.length_append]
  omega
noncomputable def rPop : V → List V → Hp → VK → Prop := fun x vs H Q => ∃ l xs y, x = .ref l ∧ vs = [] ∧ H l = some (.lst xs) ∧ xs[xs.length - 1]? = some y ∧ Q y (upd H l (.lst xs.dropLast))
theorem mt_pop : MtM X "list.pop" rPop := by
  intro pins s σ H x vs v us Q I rx rv h
  obtain ⟨l, xs, y, rfl, rfl, hH, hy, q⟩ := h
  cases rx
  have hus := rv.zero
  subst hus
  obtain ⟨z, its, n, r, hl, e⟩ := I.lstM hH
  obtain ⟨u, hu, ru⟩ := r.get hy
  have hy' : its.toArray[its.toArray.size - 1]? = some u := by
    show its.toArray[its.length - 1]? = some u
    rw [← Array.getElem?_toList, ← hl]
    exact hu
  refine call_meets F.slot_list_pop ⟨_, e, rfl⟩ F.entry_list_pop (F.args_list_pop_1 _) (MeetsSeq.list_pop_last l its.toArray n u hy' (by rw [List.size_toArray]; omega)) ⟨e, ?_⟩
  refine ⟨y, _, I.lset (its' := its.dropLast) hH e ?_ r.dropLast ?_, ru, q⟩
  · show its.toArray.eraseIdxIfInBounds (its.toArray.size - 1) = its.dropLast.toArray
    rw [List.size_toArray, List.eraseIdxIfInBounds_toArray, erase_last]
  · rw [List.length_dropLast]
    omega
noncomputable def rPopAt : V → List V → Hp → VK → Prop := fun x vs H Q => ∃ l xs i k y, x = .ref l ∧ vs = [.int i] ∧ H l = some (.lst xs) ∧ -(2 ^ 63) ≤ i ∧ i < 2 ^ 63 ∧ seqIndex? i xs.length = some k ∧ xs[k]? = some y ∧ Q y (upd H l (.lst (xs.eraseIdx k)))
theorem mt_popAt : MtM X "list.pop" rPopAt := by
  intro pins s σ H x vs v us Q I rx rv h
  obtain ⟨l, xs, i, k, y, rfl, rfl, hH, h1, h2, hk, hy, q⟩ := h
  cases rx
  obtain ⟨u, rfl, ru⟩ := rv.one
  obtain ⟨t, rfl⟩ := ru
  obtain ⟨z, its, n, r, hl, e⟩ := I.lstM hH
  obtain ⟨w, hw, rw'⟩ := r.get hy
  refine call_meets F.slot_list_pop ⟨_, e, rfl⟩ F.entry_list_pop (F.args_list_pop_2 _ _)
    (MeetsSeq.list_pop_at l its.toArray n i t k w (fitsIndex_both h1 h2) (by rw [List.size_toArray, ← hl]; exact hk) (by rw [← Array.getElem?_toList]; exact hw) (by rw [List.size_toArray]; omega)) ⟨e, ?_⟩
  refine ⟨y, _, I.lset (its' := its.eraseIdx k) hH e ?_ (r.eraseIdx k) ?_, rw', q⟩
  · show its.toArray.eraseIdxIfInBounds k = (its.eraseIdx k).toArray
    rw [List.eraseIdxIfInBounds_toArray]
  · have := len_erase xs k
    omega
noncomputable def rCat : R2 := fun x y H Q => ∃ l b xs zs, x = .ref l ∧ y = .ref b ∧ H l = some (.lst xs) ∧ H b = some (.lst zs) ∧ xs.length + zs.length ≤ sizeLine ∧ ∀ p, H p = none → Q (.ref p) (upd H p (.lst (xs ++ zs)))
theorem op_cat : OpR X (binaryOp .Add) rCat := by
  intro pins s σ H x y v u Q I rx ry h
  obtain ⟨l, b, xs, zs, rfl, rfl, hH, hB, hz, q⟩ := h
  cases rx
  cases ry
  obtain ⟨z, its, n, r, hl, e⟩ := I.lstM hH
  obtain ⟨z2, its2, n2, r2, hl2, e2⟩ := I.lstM hB
  refine PySem.P.add_list e e2 ?_ (by rw [List.size_toArray, List.size_toArray]; omega)
  have ea : its.toArray ++ its2.toArray = (its ++ its2).toArray := by simp
  rw [ea]
  exact ⟨.ref _, _, I.lnew (t' := s.toks) (r.append r2) (by rw [List.length_append]; omega), rfl, q _ I.fresh⟩
end
section
variable {prog : Program} {w : World} {A : Around} {E : Value → Shared → Prop} {s : Shared}
set_option maxRecDepth 100000 in
end
section
variable {X : Cx}
end
end L2
namespace Att
open PySem PySem.W PySem.Calls PyProof.Rows
theorem ints_of_wellAll {P : Params} {h : Heap} : ∀ (ns : List Int) (vs : List Value), WellAll P h vs (ns.map WData.int) → IntsAre vs ns := by
  intro ns
  induction ns with
  | nil =>
    intro vs w
    rw [List.map_nil] at w
    cases w
    exact .nil
  | cons n ns ih =>
    intro vs w
    rw [List.map_cons] at w
    cases w with
    | cons a b =>
      cases a
      exact .cons _ _ (ih _ b)
theorem script_of {l : OpenLaw} {n : Nat} (hn : l.most = some n) {P : Params} {h : Heap} {args : List WData} {vals : List Value}
    (hpre : l.row.toRowW.claim.pre args = true) (hwl : WellAll P h vals args) :
    ∃ a vs ns, vals = [Value.ref a] ∧ args = [WData.list (ns.map WData.int)] ∧ h.get? a = some { cls := .type "list", data := .seq vs.toArray } ∧ IntsAre vs ns ∧ ns.length ≤ n := by
  have hsh : WShape.hasAll [] args [.list .int] = true := (pre_splitW hpre).1
  have hc : l.pre.holds [] { args := args } = true := (pre_splitW hpre).2
  obtain ⟨d, r, rfl, h1, h2⟩ := hasAllW_cons hsh
  obtain rfl := hasAllW_nil h2
  obtain ⟨xs, rfl, h3⟩ := hasW_list h1
  obtain ⟨ns, rfl⟩ := items_int h3
  have hlen : ns.length ≤ n := by
    unfold OpenLaw.pre at hc
    have h4 : (WTm.not (.lt (.lit (.int (n : Int))) (.len (.arg 0)))).holds [] { args := [.list (ns.map .int)] } = true := by
      have h4 := (holds_andW hc).1
      rw [hn] at h4
      exact h4
    have h5 := condW_of h4 (w_not (w_lt w_lit (w_len_list (w_arg rfl))))
    rw [List.length_map] at h5
    refine Nat.le_of_not_lt fun q => ?_
    have q' : (n : Int) < ((ns.length : Nat) : Int) := by omega
    first
      | (rw [decide_eq_true q'] at h5; exact absurd h5 (by decide))
      | (simp at h5; omega)
  cases hwl with
  | cons w1 w2 =>
    cases w2
    cases w1 with
    | list ho hall => exact ⟨_, _, ns, rfl, rfl, ho, ints_of_wellAll ns _ hall, hlen⟩
theorem post_true (l : OpenLaw) (args : List WData) : l.row.toRowW.claim.post args (.bool true) args = true :=
  postW_of (r := l.row.toRowW) (X := (true == true))
    (show WShape.has [] (.bool true) .bool = true by first | rfl | decide | simp [WShape.has, WShape.arms, WShape.armsAll])
    (show (WTm.eq .res (.lit (.bool true))).value [] { args := args, res := some (.bool true), after := args } = some (.bool (true == true)) from w_eq_bool (w_res rfl) w_lit) rfl
theorem attach_call {l : OpenLaw} {n : Nat} {q : Program} {loose : List Str} {XP : (Str → Option Value) → Heap → Prop} {YP : World → Heap → Prop} {d : DefRec}
    (hn : l.most = some n) (hdf : d.params.defaults = [])
    (call : ∀ (w : World) (s₀ s₁ : Shared) (mg mb : Str → Option Value) (fa : Addr) (o : Obj) (pm cd doc : Value) (a : Addr) (vs : List Value) (ns : List Int),
      Ground q loose [] XP w s₀ mg mb s₁.heap → YP w s₁.heap →
      s₁.heap.get? fa = some o → o.data = .func (docDef d.name d.params d.body d.scope pm cd doc) → s₁.heap.CodeRec cd d.name → mg d.name = some (.ref fa) →
      s₁.heap.get? a = some { cls := .type "list", data := .seq vs.toArray } → IntsAre vs ns → ns.length ≤ n → s₁.gens = #[] →
      codeAny (model l.prog w) callerA (.call (.ref fa) ⟨[.ref a], []⟩) (fun r s' => r = .ok (.ret (.bool true)) ∧ OldK s₁.heap s'.heap ∧ s'.os = s₁.os ∧ AllBare s'.gens) s₁) :
    WalkO q loose XP YP l.row.toRowW d [] (fun f vs => PySem.call f vs) := by
  intro w s₀ s₁ mg mb G Y fa o pm cd doc dV kV ho hd hcd hD hmg hg args vals as hpre hlay hrd hwl hlo
  obtain rfl : dV = .none := Dflts.none hD hdf
  obtain rfl : kV = .none := Dflts.noKw hD
  obtain ⟨a, vs, ns, rfl, rfl, hobj, hints, hlen⟩ := script_of hn hpre hwl
  refine enter_call (codeAny_mono (call w s₀ s₁ mg mb fa o pm cd doc a vs ns G Y ho (fd_plain hd) hcd hmg hobj hints hlen hg) fun r s' hq => ?_)
  obtain ⟨rfl, h2, h3, h4⟩ := hq
  exact ⟨.inl ⟨.bool true, .bool true, [], rfl, fun _ => rfl, .bool true, post_true l _, fun _ => ⟨List.Pairwise.nil, fun _ hm => (nomatch hm)⟩⟩, h2, h3, h4⟩
section
variable {prog : Program} {w : World} {A : Around} {E : Value → Shared → Prop} {s : Shared} {K : Frag}
noncomputable def ledger (h : Heap) (L d : Addr) : List (Addr × Obj) := (List.range h.objs.size).filterMap fun a => if a = L ∨ a = d then none else (h.get? a).map fun o => (a, o)
end
end Att
namespace L2
open PySem PySem.Spec PyProof.Rows
theorem vals_ints : ∀ {vs : List Value} {ns : List Int}, IntsAre vs ns → Vals (ns.map V.int) vs
  | _, _, .nil => .nil
  | _, _, .cons n t h => .cons ⟨t, rfl⟩ (vals_ints h)
noncomputable def Only (H : Hp) : Prop := ∀ b, H b = none ∨ ∃ o xs, H b = some (.frz o (.lst xs))
theorem law_call {P : Program} {w : World} {K : PySem.W.Frag} {mg mb : Str → Option Value} {CX : CXT} {k : Nat} {fa a : Addr} {fd : FuncData} {x : Str} {sp : Sp} {s₁ : Shared} {vs : List Value} {ns : List Int}
    (KX : K.In s₁.heap) (hns : s₁.heap.Ns mainGlobals mg) (hb : s₁.heap.Ns builtinsNs mb) (hbb : ∀ x : Str, x ≠ "__name__" → mb x = bootBuiltins x) (hlim : s₁.heap.NoLimit) (hg : s₁.gens = #[])
    (ha : s₁.heap.get? a = some { cls := .type "list", data := .seq vs.toArray }) (hi : IntsAre vs ns) (hl : ns.length ≤ sizeLine) (hr : Room k callerA)
    (F : ∀ base : Heap, K.In base → base.Ns mainGlobals mg → FnOk P w K mg base CX k fa fd [x] sp) (hbind : ∀ (s : Shared) (u : Value), BindsTo s fd ⟨[u], []⟩ [(x, u)])
    (hsp : ∀ H : Hp, Only H → SqL K H a (ns.map V.int) → sp [.ref a] H (fun v _ => v = .bl true) fun _ _ _ => False)
    (hCX : ∀ H e s', CX [] H s₁ (fun _ _ _ => False) e s' → False) :
    codeAny (model P w) callerA (.call (.ref fa) ⟨[.ref a], []⟩) (fun r s' => r = .ok (.ret (.bool true)) ∧ OldK s₁.heap s'.heap ∧ s'.os = s₁.os ∧ AllBare s'.gens) s₁ := by
  have rv := vals_ints hi
  have lenV := hi.length
  -- from an abstract heap in which nothing but the script may be tracked
  have core : ∀ H : Hp, Only H → SqL K H a (ns.map V.int) → HOk P w H s₁.heap → (∀ b, H b ≠ none → b = a) → (H a ≠ none → K.lookup a = none) →
      codeAny (model P w) callerA (.call (.ref fa) ⟨[.ref a], []⟩) (fun r s' => r = .ok (.ret (.bool true)) ∧ OldK s₁.heap s'.heap ∧ s'.os = s₁.os ∧ AllBare s'.gens) s₁ := by
    intro H hO hS hok hA hK
    have base_of : ∀ {b : Addr} {o : Obj}, s₁.heap.get? b = some o → H b = none → (hidT s₁.heap H).get? b = some o := fun e n => hidT_get e n
    have noA : ∀ {b : Addr} {o : Obj} {es : Array DictEntry} {ep : Nat}, s₁.heap.get? b = some o → o.data = .dict es ep → H b = none := fun {b o es ep} e d => by
      cases q : H b with
      | none => rfl
      | some u =>
        have e' : b = a := hA b (by rw [q]; simp)
        subst e'
        rw [ha] at e; cases e
        have d' : Data.seq vs.toArray _ = Data.dict es ep := d
        cases d'
    have nsK : ∀ {b : Addr} {m : Str → Option Value}, s₁.heap.Ns b m → (hidT s₁.heap H).Ns b m := fun {b m} ⟨o, es, ep, e, d, r⟩ => ⟨o, es, ep, base_of e (noA e d), d, r⟩
    have hKb : K.In (hidT s₁.heap H) := fun b o e => base_of (KX b o e) (by
      cases q : H b with
      | none => rfl
      | some u =>
        have e' : b = a := hA b (by rw [q]; simp)
        subst e'
        rw [hK (by rw [q]; simp)] at e; cases e)
    have hM : Mod K mg (hidT s₁.heap H) := ⟨hKb, nsK hns, ⟨mb, nsK hb, hbb⟩, let ⟨mc, h1, h2⟩ := hlim; ⟨mc, nsK h1, h2⟩⟩
    have e0 : Env0 P w K mg (hidT s₁.heap H) callerA [] s₁ H := ⟨rfl, hM, fun b o e => of_hidT e, Nat.le_of_eq (hidT_size _ _), trivial, fun b hb => absurd (show b ∈ ([] : List Addr) from hb) (by simp), hok, .of_eq hg⟩
    refine codeAny_mono ((F _ hKb (nsK hns)).run callerA [] s₁ H ⟨[.ref a], []⟩ [.ref a] [.ref a] _ _ hr e0 (hbind s₁ (.ref a)) (.cons rfl .nil) (hsp H hO hS)) fun r s' h => ?_
    cases r with
    | error e => exact (hCX H e s' h).elim
    | ok fl =>
      cases fl with
      | next => exact False.elim h
      | brk => exact False.elim h
      | cont => exact False.elim h
      | ret u =>
        obtain ⟨v, H', os, bare, un, hok', r', q⟩ := h
        have q' : v = .bl true := q
        subst q'
        obtain rfl : u = Value.bool true := r'
        refine ⟨rfl, OldK.of_keep fun b o e => ?_, os, bare⟩
        cases q : H b with
        | none => exact un.keep b o e q (by intro z; exact absurd (show b ∈ ([] : List Addr) from z) (by simp)) (by simp)
        | some u =>
          rcases hO b with z | ⟨ob, xs, z⟩
          · rw [q] at z; cases z
          · have z2 := un.frzs b ob _ z
            obtain ⟨e1, _⟩ := hok b _ z
            obtain ⟨e2, _⟩ := hok' b _ z2
            rw [e] at e1; cases e1
            exact e2
  cases hk : K.lookup a with
  | some o =>
    -- the script is one of the module's own objects
    have e := KX a o hk
    rw [ha] at e
    cases e
    refine core (fun _ => none) (fun _ => .inl rfl) (.inr ⟨_, vs.toArray, _, hk, rfl, rfl, rfl, by rw [List.size_toArray, lenV]; exact hl, by simpa using rv⟩) (fun b u z => by have z' : (none : Option HO) = some u := z; cases z') (fun b z => absurd rfl z) fun z => absurd rfl z
  | none =>
    refine core (fun b => if b = a then some (.frz { cls := .type "list", data := .seq vs.toArray } (.lst (ns.map V.int))) else none) (fun b => ?_) (.inl (.inr ⟨{ cls := .type "list", data := .seq vs.toArray }, if_pos rfl⟩)) (fun b u z => ?_) (fun b z => ?_) fun _ => hk
    · by_cases hb : b = a
      · exact .inr ⟨_, _, if_pos hb⟩
      · exact .inl (if_neg hb)
    · by_cases hb : b = a
      · have z' := (if_pos hb).symm.trans z
        cases z'
        subst hb
        exact ⟨ha, by rw [List.length_map]; exact hl, vs, _, rv, ha⟩
      · have z' := (if_neg hb).symm.trans z
        cases z'
    · by_cases hb : b = a
      · exact hb
      · exact absurd (if_neg hb) z
end L2
namespace L2
open PySem PySem.Spec PyProof.Rows
noncomputable abbrev KOf {K : PySem.W.Frag} {h : Heap} (_ : K.In h) : PySem.W.Frag := K
theorem walk_of {l : PySem.W.OpenLaw} {n k : Nat} {q : Program} {loose : List Str} {XP : (Str → Option Value) → Heap → Prop} {YP : World → Heap → Prop} {d : DefRec} {K : Params → PySem.W.Frag} {CX : World → CXT} {sp : World → Sp} {x : Str}
    (hn : l.most = some n) (hn2 : n ≤ sizeLine) (hdf : d.params.defaults = []) (hr : Room k callerA)
    (hY : ∀ (w : World) (h : Heap), YP w h → (K w.params).In h)
    (F : ∀ (w : World) (mg : Str → Option Value) (fa : Addr) (h : Heap), (K w.params).In h → h.Ns mainGlobals mg → mg d.name = some (.ref fa) →
      ∃ fd : FuncData, (∀ (s : Shared) (u : Value), BindsTo s fd ⟨[u], []⟩ [(x, u)]) ∧
        ∀ base : Heap, (K w.params).In base → base.Ns mainGlobals mg → FnOk l.prog w (K w.params) mg base (CX w) k fa fd [x] (sp w))
    (hsp : ∀ (w : World) (H : Hp) (a : Addr) (ns : List Int), ns.length ≤ n → Only H → SqL (K w.params) H a (ns.map V.int) → sp w [.ref a] H (fun v _ => v = .bl true) fun _ _ _ => False)
    (hCX : ∀ (w : World) (H : Hp) (s : Shared) (e : Value) (s' : Shared), CX w [] H s (fun _ _ _ => False) e s' → False) :
    PySem.W.WalkO q loose XP YP l.row.toRowW d [] (fun f vs => PySem.call f vs) := by
  refine Att.attach_call hn hdf fun w s₀ s₁ mg mb fa o pm cd doc a vs ns G Y ho hd hcd hmg hobj hints hlen hg => ?_
  have KX := hY w _ Y
  obtain ⟨fd, hb, hF⟩ := F w mg fa _ KX G.T.g hmg
  exact law_call KX G.T.g G.T.b G.T.builtins G.T.nolimit hg hobj hints (Nat.le_trans hlen hn2) hr hF hb (fun H hO hS => hsp w H a ns hlen hO hS) fun H e s' => hCX w H s₁ e s'
end L2
namespace L2
open PySem PySem.Spec PyProof.Rows
noncomputable def inClass (s : Stmt) (j : Nat) : Stmt := match s with
  | .ClassDef _ _ _ body _ _ _ _ _ _ _ => body.getD j (.Pass ⟨0, 0, 0, 0⟩)
  | _ => .Pass ⟨0, 0, 0, 0⟩
noncomputable def defArgs (s : Stmt) : Arguments := match s with
  | .FunctionDef _ a _ _ _ _ _ _ _ _ => a
  | _ => { posonlyargs := [], args := [], vararg := none, kwonlyargs := [], kw_defaults := [], kwarg := none, defaults := [] }
noncomputable def defBody (s : Stmt) : List Stmt := match s with
  | .FunctionDef _ _ b _ _ _ _ _ _ _ => b
  | _ => []
noncomputable def defScope (s : Stmt) : Scope := match s with
  | .FunctionDef _ _ _ _ _ _ sc _ _ _ => sc
  | _ => { kind := .function, names := [], isGenerator := false, isCoroutine := false }
noncomputable abbrev CX0 : CXT := fun _ _ _ _ _ _ => False
noncomputable abbrev E0 : XK := fun _ _ _ => False
structure Fun (K : PySem.W.Frag) (x qual : Str) (st : Stmt) (f : Addr) (fd : FuncData) : Prop where
  ex : ∃ (oc : Value) (od : Option Addr) (kV doc pm : Value) (an : Option Addr) (cdv ct : Value) (osl : Array (Option Value)),
    fd = PySem.W.fnOf x qual (defArgs st) (defBody st) (defScope st) .none kV doc pm an cdv ct ∧ K.lookup f = some ⟨oc, od, .func fd, osl⟩ ∧ PySem.W.codeIn K cdv qual = true
  kp : PySem.W.keepIn K (.ref f) = true
section
variable {P : Program} {w : World} {K : PySem.W.Frag} {mg : Str → Option Value} {base : Heap}
theorem Fun.ok {x qual : Str} {st : Stmt} {f : Addr} {fd : FuncData} {N ps : List Str} {k : Nat} {sp : Sp} (F : Fun K x qual st f fd) (S : FnScope N ps (defScope st)) (len : ∀ vs H Q E, sp vs H Q E → vs.length = ps.length)
    (hbody : ∀ (cdv : Value) (A : Around) (outer : List Env) (s : Shared) (H : Hp) (vs : List V) (Q : VK) (E : XK), Room k (A.deeper (envOfC qual (defScope st) s.heap.objs.size f cdv)) → sp vs H Q E →
      ∃ t, PSs (cxOf CX0 P w K mg base N qual (defScope st) f cdv A outer s H E).nox (defBody st) t ∧ t { nx := fun _ H' => Q .non H', rt := Q } (start N vs) H) : FnOk P w K mg base CX0 (k + 1) f fd ps sp := by
  obtain ⟨oc, od, kV, doc, pm, an, cdv, ct, osl, rfl, lk, hcd⟩ := F.ex
  refine fn_of lk hcd S len fun A outer s H vs Q E hr hsp => ?_
  obtain ⟨t, h, q⟩ := hbody cdv A outer s H vs Q E hr hsp
  exact ⟨t, h.nox, q⟩
theorem Fun.binds {x qual : Str} {st : Stmt} {f : Addr} {fd : FuncData} {ps : List Str} (F : Fun K x qual st f fd)
    (h : ∀ (kV doc pm : Value) (an : Option Addr) (cdv ct : Value) (us : List Value), us.length = ps.length → bindArgs (PySem.W.fnOf x qual (defArgs st) (defBody st) (defScope st) .none kV doc pm an cdv ct) ⟨us, []⟩ = pure (ps.zip us)) : Binds K fd ps [] := by
  obtain ⟨oc, od, kV, doc, pm, an, cdv, ct, osl, rfl, lk, hcd⟩ := F.ex
  exact .all (h kV doc pm an cdv ct)
theorem fun_mk {x qual : Str} {st : Stmt} {f : Addr} {oc : Value} {od an : Option Addr} {osl : Array (Option Value)} {kV doc pm cdv ct : Value} (l : K.lookup f = some ⟨oc, od, .func (PySem.W.fnOf x qual (defArgs st) (defBody st) (defScope st) .none kV doc pm an cdv ct), osl⟩)
    (c : PySem.W.codeIn K cdv qual = true) (k : PySem.W.keepIn K (.ref f) = true) : Fun K x qual st f (PySem.W.fnOf x qual (defArgs st) (defBody st) (defScope st) .none kV doc pm an cdv ct) := ⟨⟨oc, od, kV, doc, pm, an, cdv, ct, osl, rfl, l, c⟩, k⟩
end
section
variable {X : Cx}
theorem pv (i : Nat) {x : Str} {pos : Pos} (hN : X.N[i]? = some x := by rfl) (hv : Vis X.env.scope x := by first | exact Or.inl rfl | exact Or.inr (Or.inl rfl) | exact Or.inr (Or.inr rfl)) (hd : (x == ("__debug__" : Str)) = false := by decide)
    (hcd : (x == ("__classdict__" : Str)) = false := by decide) : PE X (.Name x pos) (tVar i) := pe_var hN hv hd hcd
end
theorem iteF {A B : Prop} (h : B) : if false = true then A else B := by
  rw [if_neg Bool.false_ne_true]
  exact h
theorem iteT {A B : Prop} (h : A) : if true = true then A else B := by
  rw [if_pos rfl]
  exact h
theorem ite2 {c A B : Prop} [Decidable c] (h1 : c → A) (h2 : ¬ c → B) : if c then A else B := by
  by_cases h : c
  · rw [if_pos h]
    exact h1 h
  · rw [if_neg h]
    exact h2 h
theorem iteNS {c A B : Prop} [Decidable c] (hc : c) (h : B) : if (!decide c) = true then A else B := by
  rw [decide_eq_true hc]
  exact iteF h
noncomputable def Same (H H' : Hp) : Prop := ∀ b o, H b = some o → H' b = some o
theorem Same.refl (H : Hp) : Same H H := fun _ _ h => h
theorem Same.trans {H H1 H2 : Hp} (a : Same H H1) (b : Same H1 H2) : Same H H2 := fun c o h => b c o (a c o h)
theorem Same.free {H H' : Hp} (e : Same H H') {l : Addr} (h : H' l = Option.none) : H l = Option.none := by
  cases q : H l with
  | none => rfl
  | some o =>
    rw [e l o q] at h
    cases h
theorem Same.seq {K : PySem.W.Frag} {H H' : Hp} {a : Addr} {xs : List V} (e : Same H H') (h : SqL K H a xs) : SqL K H' a xs := by
  rcases h with (h | ⟨o, h⟩) | h
  · exact .inl (.inl (e _ _ h))
  · exact .inl (.inr ⟨o, e _ _ h⟩)
  · exact .inr h
end L2
set_option Elab.async false
set_option linter.all false
set_option maxRecDepth 100000
set_option maxHeartbeats 4000000
namespace L2
open PySem PySem.Spec PyProof.Rows
section
variable {X : Cx}
noncomputable def CDivL (i j : Int) : Prop := 0 < j ∧ j.natAbs.log2 < 9000
theorem op_fdivL : OpR X (binaryOp .FloorDiv) (rI CDivL fun i j => .int (i / j)) := opI fun i j _ _ _ _ _ hc q => by
  have h1 : (0 : Int) < j := hc.1
  exact floordiv_int (by omega) (by rw [Int.fdiv_eq_ediv_of_nonneg i (by omega)]; exact q) (.inl (PyProof.noPylong_of_log2 hc.2))
theorem call_isinst : CallR X (.builtin "isinstance") (fun xs H Q => ∃ x c cv t b, xs = [x, c] ∧ (∀ u, RelV c u → u = cv) ∧ TyOf X.K H x t ∧ PySem.W.kitOne X.K t cv = some b ∧ Q (.bl b) H) := by
  intro pins s σ H xs us Q I r h
  obtain ⟨x, c, cv, t, b, rfl, hcv, ty, e, q⟩ := h
  obtain ⟨u, w', rfl, r1, r2⟩ := vals2 r
  rw [hcv w' r2]
  exact isinst_ok I r1 ty e fun tk => ⟨.bl b, H, I.tok _, rfl, q⟩
theorem relTy {n : String} : ∀ u, RelV (.ty n) u → u = Value.type n := fun _ h => h
end
theorem forIn_collect {α β : Type} {l : List α} {f : α → β → Sem (ForInStep β)} (g : β → α → β) (c : β) (h : ∀ x ∈ l, ∀ c, f x c = pure (.yield (g c x))) :
    forIn l c f = pure (l.foldl g c) := by
  induction l generalizing c with
  | nil => rfl
  | cons x l ih =>
    rw [List.forIn_cons, h x List.mem_cons_self, pure_bind]
    exact ih _ fun y hy => h y (List.mem_cons_of_mem _ hy)
noncomputable def clOf (cells : List (Str × Addr)) (names : List (Str × NameKind)) (acc : List (Str × Addr)) : List (Str × Addr) :=
  names.foldl (fun cs y => if y.2 == .free then (y.1, (cells.lookup y.1).getD 0) :: cs else cs) acc
theorem closure_eq {scope : Scope} {env : Env} (h : ∀ y ∈ scope.names, y.2 = .free → ∃ c, env.cells.lookup y.1 = some c) : closureFor scope env = pure (clOf env.cells scope.names []) := by
  simp only [closureFor]
  rw [forIn_collect (fun cs y => if y.2 == .free then (y.1, (env.cells.lookup y.1).getD 0) :: cs else cs) [] fun x hx c => ?_]
  · rfl
  · obtain ⟨n, k⟩ := x
    by_cases hk : k = .free
    · subst hk
      obtain ⟨a, ea⟩ := h (n, .free) hx rfl
      have ea' : env.cells.lookup n = some a := ea
      simp only [beq_self_eq_true, if_true, cellOf, ea', pure_bind, Option.getD_some]
    · have hb : (k == NameKind.free) = false := by simpa using hk
      simp only [hb, Bool.false_eq_true, if_false]
theorem lookup_mem {α : Type} : ∀ {l : List (Str × α)} {x : Str} {c : α}, l.lookup x = some c → (x, c) ∈ l
  | [], _, _, h => by simp at h
  | (y, d) :: r, x, c, h => by
    rw [List.lookup_cons] at h
    cases hx : x == y with
    | true =>
      rw [hx] at h
      have e : x = y := by simpa using hx
      subst e
      cases h
      exact List.mem_cons_self
    | false =>
      rw [hx] at h
      exact List.mem_cons_of_mem _ (lookup_mem h)
theorem mem_lookup {α : Type} : ∀ {l : List (Str × α)} {x : Str} {c : α}, (x, c) ∈ l → ∃ d, l.lookup x = some d
  | [], _, _, h => by cases h
  | (y, d) :: r, x, c, h => by
    rw [List.lookup_cons]
    cases hx : x == y with
    | true => exact ⟨d, rfl⟩
    | false =>
      rcases List.mem_cons.mp h with e | h
      · cases e; simp at hx
      · exact mem_lookup h
theorem clOf_mem {cells : List (Str × Addr)} : ∀ {names : List (Str × NameKind)} {acc : List (Str × Addr)} {p : Str × Addr}, p ∈ clOf cells names acc ↔ p ∈ acc ∨ ((p.1, NameKind.free) ∈ names ∧ p.2 = (cells.lookup p.1).getD 0)
  | [], acc, p => by simp [clOf]
  | (n, k) :: r, acc, p => by
    show p ∈ clOf cells r (if k == .free then (n, (cells.lookup n).getD 0) :: acc else acc) ↔ _
    rw [clOf_mem (names := r)]
    by_cases hk : k = .free
    · subst hk
      simp only [beq_self_eq_true, if_true, List.mem_cons]
      constructor
      · rintro ((rfl | h) | h)
        · exact .inr ⟨.inl rfl, rfl⟩
        · exact .inl h
        · exact .inr ⟨.inr h.1, h.2⟩
      · rintro (h | ⟨h | h, e⟩)
        · exact .inl (.inr h)
        · obtain ⟨a, b⟩ := p
          cases h
          exact .inl (.inl (by rw [show b = _ from e]))
        · exact .inr ⟨h, e⟩
    · have hb : (k == NameKind.free) = false := by simpa using hk
      simp only [hb, Bool.false_eq_true, if_false, List.mem_cons]
      constructor
      · rintro (h | h)
        · exact .inl h
        · exact .inr ⟨.inr h.1, h.2⟩
      · rintro (h | ⟨h | h, e⟩)
        · exact .inl h
        · cases h; exact absurd rfl hk
        · exact .inr ⟨h, e⟩
theorem relabel_mem {scope : Scope} {env : Env} {x : Str} {k : NameKind} (h : (relabel scope env).names.lookup x = some k) : ∃ k', (x, k') ∈ scope.names ∧ (k' = k ∨ (k' = .free ∧ k = .cell)) := by
  have m := lookup_mem h
  unfold relabel at m
  obtain ⟨⟨n, k'⟩, hm, e⟩ := List.mem_map.mp m
  dsimp only at e
  split at e
  · rename_i hc
    rw [Bool.and_eq_true, Bool.and_eq_true] at hc
    have e1 : n = x := congrArg Prod.fst e
    have e2 : NameKind.cell = k := congrArg Prod.snd e
    subst e1 e2
    exact ⟨k', hm, .inr ⟨by simpa using hc.1.1, rfl⟩⟩
  · have e1 : n = x := congrArg Prod.fst e
    have e2 : k' = k := congrArg Prod.snd e
    subst e1 e2
    exact ⟨k', hm, .inl rfl⟩
noncomputable def subCx (X : Cx) (scope : Scope) (N : List Str) (cl : List (Str × Addr)) (C : Addr) (s : Shared) (H : Hp) (fp : List Addr) (xe : Value → Shared → Prop) : Cx :=
  { X with N := N, s₀ := s, H₀ := H, env := compEnvC scope cl C X.env, outer := X.stack, stack := X.stack, ex := fp, fn := fun _ => false, pn := [], xe := xe }
inductive Caps (X : Cx) (scope : Scope) : List Str → List (Option Nat) → Prop where
  | nil : Caps X scope [] []
  | own {x : Str} {N : List Str} {ix : List (Option Nat)} (r : Caps X scope N ix) : Caps X scope (x :: N) (none :: ix)
  | cap {x : Str} {j : Nat} {N : List Str} {ix : List (Option Nat)} (h1 : X.N[j]? = some x) (h2 : X.env.kindOf x = some .cell) (h3 : (relabel scope X.env).names.lookup x = some .cell) (r : Caps X scope N ix) : Caps X scope (x :: N) (some j :: ix)
noncomputable def capS (ix : List (Option Nat)) (σ : St) : St := ix.map fun o => match o with
  | none => none
  | some j => (σ[j]?).getD none
theorem Caps.get {X : Cx} {scope : Scope} {σ : St} : ∀ {N : List Str} {ix : List (Option Nat)}, Caps X scope N ix → ∀ (i : Nat) (x : Str) (v : V), N[i]? = some x → (capS ix σ)[i]? = some (some v) →
    ∃ j : Nat, X.N[j]? = some x ∧ σ[j]? = some (some v) ∧ X.env.kindOf x = some .cell ∧ (relabel scope X.env).names.lookup x = some .cell
  | _, _, .nil, i, x, v, h, _ => by simp at h
  | _, _, .own r, 0, x, v, _, h => by simp [capS] at h
  | _, _, .own r, i + 1, x, v, h1, h2 => r.get i x v (by simpa using h1) (by simpa [capS] using h2)
  | _, _, .cap (j := j) e1 e2 e3 r, 0, x, v, h1, h2 => by
    simp at h1
    subst h1
    refine ⟨j, e1, ?_, e2, e3⟩
    simp only [capS, List.map_cons, List.getElem?_cons_zero, Option.some.injEq] at h2
    cases q : σ[j]? with
    | none => rw [q] at h2; cases h2
    | some o => rw [q] at h2; simp only [Option.getD_some] at h2; rw [h2]
  | _, _, .cap e1 e2 e3 r, i + 1, x, v, h1, h2 => r.get i x v (by simpa using h1) (by simpa [capS] using h2)
theorem Caps.length {X : Cx} {scope : Scope} {N : List Str} {ix : List (Option Nat)} (h : Caps X scope N ix) : ix.length = N.length := by
  induction h with
  | nil => rfl
  | own _ ih => simp [ih]
  | cap _ _ _ _ ih => simp [ih]
noncomputable def Ext (a b : St) : Prop := b.length = a.length ∧ ∀ (i : Nat) v, a[i]? = some (some v) → b[i]? = some (some v)
theorem Ext.set {a : St} {i : Nat} {v : V} (h : a[i]? = some none) : Ext a (a.set i (some v)) := by
  refine ⟨by simp, fun j w e => ?_⟩
  by_cases hj : j = i
  · subst hj; rw [h] at e; cases e
  · rw [List.getElem?_set_ne (Ne.symm hj)]; exact e
theorem Ext.trans {a b c : St} (h : Ext a b) (h' : Ext b c) : Ext a c := ⟨h'.1.trans h.1, fun i v e => h'.2 i v (h.2 i v e)⟩
noncomputable def PTs (X : Cx) (ifs : List Expr) (t : TT) : Prop :=
  ∀ (pins : List (Addr × Obj)) (s : Shared) (σ : St) (H : Hp) (Q : Bool → Hp → Prop), Inv X pins σ H s → t σ H Q →
    wpAny (model X.prog X.w) X.A (forIn ifs true fun c r => if r = true then do let ok ← isTrue c X.env (eval c X.env); pure (ForInStep.yield ok) else pure (ForInStep.yield r)) (TP X pins σ Q) X.xe s
noncomputable def ttNil : TT := fun _ H Q => Q true H
theorem pts_nil {X : Cx} : PTs X [] ttNil := fun pins s σ H Q I h => wpAny_tests_nil ⟨H, I, h⟩
noncomputable def CompW (J : It) (g : TG) (tt : TT) (te : TE) (σ0 : St) (D : Addr) (Q : VK) (H1 : Hp) : Prop := ∃ W : Nat → Nat → List V → Hp → Prop, (∃ m, W 0 m [] (upd H1 D (.lst []))) ∧ ∀ i m ys H, W i m ys H →
  (J.stop i H ∧ Q (.ref D) H) ∨ (J.go i H ∧ ∀ x H', J.yld i H x H' → g x σ0 H' fun σ2 H2 => Ext σ0 σ2 ∧ tt σ2 H2 fun b H3 =>
    if b = true then te σ2 H3 fun v H4 => H4 D = some (.lst ys) ∧ ys.length < sizeLine ∧ ∃ m', m' < m ∧ W (i + 1) m' (ys ++ [v]) (upd H4 D (.lst (ys ++ [v]))) else ∃ m', m' < m ∧ W (i + 1) m' ys H3)
noncomputable def tComp (wi : TI) (g : TG) (tt : TT) (te : TE) (ix : List (Option Nat)) : TE := fun σ H Q => wi σ H fun J H1 => ∀ D, H1 D = none → CompW J g tt te (capS ix σ) D Q H1
section
variable {prog : Program} {w : World} {A : Around} {R : Result → Shared → Prop} {s : Shared}
theorem comp_loop {elt target iter : Expr} {ifs : List Expr} {scope : Scope} {pos : Pos} {it acc : Value} {env : Env} (I : Nat → Shared → Prop)
    (turn : ∀ n s, I n s → wpAny (model prog w) A (pyNext it) (fun r s₁ => match r with
      | none => R (.ok .next) s₁
      | some v => wpAny (model prog w) A (letOwnedTupleGo target it v) (fun _ s₁' => wpAny (model prog w) A (assign target env v) (fun _ s₂ =>
          wpAny (model prog w) A (forIn ifs true fun c r => if r = true then do let ok ← isTrue c env (eval c env); pure (ForInStep.yield ok) else pure (ForInStep.yield r)) (fun ok s₃ =>
            if ok = true then wpAny (model prog w) A (eval elt env) (fun x s₄ =>
              wpAny (model prog w) A (call (.builtin "list.append") [acc, x]) (fun _ s₅ => ∃ m, m < n ∧ I m s₅) (notedBy (model prog w) A env fun e s' => R (.error e) s') s₄) (notedBy (model prog w) A env fun e s' => R (.error e) s') s₃
            else ∃ m, m < n ∧ I m s₃) (notedBy (model prog w) A env fun e s' => R (.error e) s') s₂) (notedBy (model prog w) A env fun e s' => R (.error e) s') s₁') (notedBy (model prog w) A env fun e s' => R (.error e) s') s₁) (notedBy (model prog w) A env fun e s' => R (.error e) s') s)
    (n : Nat) (h : I n s) : codeAny (model prog w) A (.compLoop (.ListComp elt [⟨target, iter, ifs, 0⟩] scope pos) 0 it acc env) R s := by
  refine codeAny_loop rfl I (fun n s hI => ?_) n h
  show wpAny _ A ((compTurn (.ListComp elt [⟨target, iter, ifs, 0⟩] scope pos) 0 it acc env).onRaise (fun x => do noteFrame x env; theTreesLotGoes x)) _ _ s
  refine wpAny_noted ?_
  rw [compTurn_list]
  refine wpAny_bind (wpAny_standAt (wpAny_bind (wpAny_mono (turn n s hI) (fun r s₁ h₁ => ?_) fun _ _ h' => h')))
  cases r with
  | none => exact wpAny_pure h₁
  | some v =>
    refine wpAny_bind (wpAny_mono h₁ (fun _ s₁' h₁' => ?_) fun _ _ h' => h')
    refine wpAny_bind (wpAny_mono h₁' (fun _ s₂ h₂ => wpAny_bind (wpAny_mono h₂ (fun ok s₃ h₃ => ?_) fun _ _ h' => h')) fun _ _ h' => h')
    cases ok with
    | false => exact wpAny_pure ⟨rfl, h₃⟩
    | true =>
      exact wpAny_bind (wpAny_bind (wpAny_mono h₃ (fun x s₄ h₄ => wpAny_bind (wpAny_mono h₄ (fun _ s₅ h₅ => wpAny_pure (wpAny_pure ⟨rfl, h₅⟩)) fun _ _ h' => h')) fun _ _ h' => h'))
end
section
variable {X : Cx}
noncomputable def noCell (sc : Scope) : Bool := sc.names.all fun y => y.2 != .cell
noncomputable def freeOk (sc : Scope) (env : Env) : Bool := sc.names.all fun y => y.2 != .free || env.kindOf y.1 == some .cell
noncomputable def namesOk (sc : Scope) : Bool := sc.names.all fun y => y.2 != .local || sc.names.lookup y.1 == some .local
structure BlockEnd (X : Cx) (pins : List (Addr × Obj)) (σ : St) (H : Hp) (C : Addr) (s : Shared) : Prop where
  inv : Inv X pins σ H s
  ns : ∃ m, s.heap.Ns C m
  free : H C = none
  loc : C ≠ X.env.locals
  young : X.s₀.heap.objs.size ≤ C
  cell : ∀ x c, X.env.cells.lookup x = some c → c ≠ C
  pin : ∀ p ∈ X.pn ++ pins, p.1 ≠ C
theorem BlockEnd.gone {pins : List (Addr × Obj)} {σ : St} {H : Hp} {C : Addr} {s : Shared} (B : BlockEnd X pins σ H C s) {h' : Heap} (hs : Heap.SameBut C s.heap h') : Inv X pins σ H { s with heap := h' } :=
  B.inv.turned (t' := s.toks) (it := C) (fun b o hb e => hs.extBut b o hb e) B.free B.loc (.inr B.young) B.cell B.pin
theorem comp_core {elt tg iter : Expr} {ifs : List Expr} {scope : Scope} {pos pos' : Pos} {N : List Str} {ix : List (Option Nat)} {wi : TI} {g : TG} {tt : TT} {te : TE} {use : Option (Value → Sem Unit)} {Qv : Value → Shared → Prop}
    (hc : X.calm = true) (hi : PI X tg iter wi) (hk : scope.kind = .function) (hcell0 : noCell scope = true) (hfree0 : freeOk scope X.env = true) (hnames0 : namesOk scope = true) (caps : Caps X scope N ix)
    (hg : ∀ cl C s H fp xe, PG (subCx X scope N cl C s H fp xe) tg g) (ht : ∀ cl C s H fp xe, PTs (subCx X scope N cl C s H fp xe) ifs tt) (he : ∀ cl C s H fp xe, PE (subCx X scope N cl C s H fp xe) elt te)
    (hs : ∀ x, foldedSetIterable iter X.env x = pure x)
    {pins : List (Addr × Obj)} {s : Shared} {σ : St} {H : Hp} {Q : VK} (I : Inv X pins σ H s) (h : tComp wi g tt te ix σ H Q)
    (fin : ∀ (C D : Addr) (H6 : Hp) (s6 : Shared), BlockEnd X pins σ H6 C s6 → Q (.ref D) H6 → compPost (model X.prog X.w) X.A X.xe use Qv (.ref D) C (.ok .next) s6) :
    wpAny (model X.prog X.w) X.A (comprehension (.ListComp elt [⟨tg, iter, ifs, 0⟩] scope pos) scope X.env pos' (newList []) false (eval iter X.env) use) Qv X.xe s := by
  have hcell : ∀ y ∈ scope.names, y.2 ≠ .cell := fun y hy e => by
    have := List.all_eq_true.mp hcell0 y hy
    rw [e] at this; exact absurd this (by decide)
  have hfree : ∀ y ∈ scope.names, y.2 = .free → X.env.kindOf y.1 = some .cell := fun y hy e => by
    have := List.all_eq_true.mp hfree0 y hy
    rw [e] at this; simpa using this
  have hnames : ∀ y ∈ scope.names, y.2 = .local → scope.names.lookup y.1 = some .local := fun y hy e => by
    have := List.all_eq_true.mp hnames0 y hy
    rw [e] at this; simpa using this
  have hcl : ∀ y ∈ scope.names, y.2 = .free → ∃ c, X.env.cells.lookup y.1 = some c := fun y hy e => I.ok.has y.1 (.inl (hfree y hy e))
  refine wpAny_comprehension_free (use := use) rfl hs (closure_eq hcl) hk hnames ?_
  generalize ecl : clOf X.env.cells scope.names [] = cl
  -- the cells of the block are the def's
  have cl1 : ∀ x c, cl.lookup x = some c → X.env.cells.lookup x = some c := fun x c e => by
    have m := lookup_mem e
    rw [← ecl] at m
    rcases clOf_mem.mp m with z | ⟨z, z'⟩
    · cases z
    · obtain ⟨a, ea⟩ := hcl _ z rfl
      have ea' : X.env.cells.lookup x = some a := ea
      have z2 : c = (X.env.cells.lookup x).getD 0 := z'
      rw [ea', Option.getD_some] at z2
      rw [ea', z2]
  have cl2 : ∀ x, (x, NameKind.free) ∈ scope.names → ∃ c, cl.lookup x = some c := fun x hx => by
    have m : (x, (X.env.cells.lookup x).getD 0) ∈ cl := by rw [← ecl]; exact clOf_mem.mpr (.inr ⟨hx, rfl⟩)
    exact mem_lookup m
  refine thn (hi pins s σ H _ I h) fun v s1 h1 => thn h1 fun itv s2 h2 => ?_
  obtain ⟨it, fp, tn, J, H2, e, I2, T, st2, f2, body⟩ := h2
  subst e
  refine wpAny_newObj_type (wpAny_newFunctionEnv hcell (by intro y hy; simp at hy) (fun h₁ hns₁ hsb₁ => ?_) hk)
  dsimp only at hns₁ hsb₁ ⊢
  have hD : H2 s2.heap.objs.size = none := I2.hok.fresh (Nat.le_refl _)
  obtain ⟨W, ⟨m0, w0⟩, turn⟩ := body _ hD
  have I3 : Inv X pins σ (upd H2 s2.heap.objs.size (.lst [])) { s2 with heap := s2.heap.push { cls := .type "list", dict := none, data := .seq ([] : List Value).toArray } } :=
    I2.laid (t' := s2.toks) (fun b o e => Heap.get?_push_of_some _ e) (Nat.le_refl _) ⟨Nat.zero_le _, [], 0, .nil, Heap.get?_push_size _ rfl⟩
  generalize hs3 : ({ s2 with heap := s2.heap.push { cls := .type "list", dict := none, data := .seq ([] : List Value).toArray } } : Shared) = s3 at I3
  have es3 : s2.heap.push { cls := .type "list", dict := none, data := .seq ([] : List Value).toArray } = s3.heap := by rw [← hs3]
  rw [es3] at hns₁ hsb₁ ⊢
  generalize hD' : s2.heap.objs.size = D at *
  generalize hH3 : upd H2 D (.lst []) = H3 at *
  have szC : s3.heap.objs.size = D + 1 := by rw [← es3, Heap.size_push, hD']
  -- what was, is
  have old : ∀ b o, s3.heap.get? b = some o → h₁.get? b = some o := fun b o e => hsb₁.extBut b o (Nat.ne_of_lt (Heap.lt_size e)) (Heap.get?_push_of_some _ e)
  have fpl : ∀ b ∈ fp, b < D := fun b hb => by
    obtain ⟨o, e, _⟩ := T.obj 0 _ st2 b hb
    rw [← hD']; exact Heap.lt_size e
  have fpD : ∀ b ∈ fp, H3 b = none := fun b hb => by
    rw [← hH3, upd_ne (Nat.ne_of_lt (fpl b hb))]; exact (f2 b hb).1
  have fstk : ∀ b ∈ fp, b ∉ frs X.stack := fun b hb z => by
    obtain ⟨_, f1, f3, _⟩ := f2 b hb
    rcases List.mem_cons.mp (I2.stkSub b z) with e | e
    · exact f1 e
    · exact f3 e
  let E' : Value → Shared → Prop := notedBy (model X.prog X.w) X.A (compEnvC scope cl s3.heap.objs.size X.env) fun e s' => compPost (model X.prog X.w) X.A X.xe use Qv (.ref D) s3.heap.objs.size (.error e) s'
  have ok' : (subCx X scope N cl s3.heap.objs.size s3 H3 fp E').Ok := by
    refine { mod := I.ok.mod, kind := ?_, glob := I.ok.glob, blt := I.ok.blt, above := Nat.le_refl _, inj := ?_, has := ?_, cab := ?_, hd := I.ok.hd, frames := I.ok.frames, stk := .inl rfl, exf := ?_, bs := I3.bs, bsz := ?_, noex := ?_, exfs := fstk, funs := I3.stack, frf := I3.stkFree }
    · show (relabel scope X.env).kind = .function
      exact hk
    · exact fun x y c e1 e2 => I.ok.inj x y c (cl1 x c e1) (cl1 y c e2)
    · intro x hx
      have hx' : (relabel scope X.env).names.lookup x = some .cell ∨ (relabel scope X.env).names.lookup x = some .free := hx
      have : (x, NameKind.free) ∈ scope.names := by
        rcases hx' with e | e
        · obtain ⟨k', hm, z | ⟨z, _⟩⟩ := relabel_mem e
          · subst z; exact absurd rfl (hcell _ hm)
          · subst z; exact hm
        · obtain ⟨k', hm, z | ⟨z, z'⟩⟩ := relabel_mem e
          · subst z; exact hm
          · cases z'
      exact cl2 x this
    · intro x c z; cases z
    · intro b hb
      refine ⟨fun z => ?_, fun x c e => (f2 b hb).2.2.2.2.1 x c (cl1 x c e)⟩
      have lt := fpl b hb
      have z' : b = s3.heap.objs.size := z
      rw [z', szC] at lt
      exact absurd lt (Nat.not_lt.mpr (Nat.le_succ D))
    · exact Nat.le_trans I3.ok.bsz I3.sz
    · intro b o e hb
      rcases (f2 b hb).2.2.2.1 with z | z
      · exact I.ok.noex b o e z
      · exact absurd (Nat.lt_of_lt_of_le (Heap.lt_size e) (Nat.le_trans I.ok.bsz z)) (Nat.lt_irrefl _)
  have I4 : ∀ tk, Inv (subCx X scope N cl s3.heap.objs.size s3 H3 fp E') [] (capS ix σ) H3 { s3 with heap := h₁, toks := tk } := fun tk => by
    refine ⟨ok', rfl, I3.bare, Un.kept old, ⟨_, hns₁, fun i x v e1 e2 e3 => ?_⟩, fun x c e => ?_, ?_, fun x c e => I3.freeC x c (cl1 x c e), fun p hp => (by cases hp), I3.hok.kept old, ?_⟩
    · obtain ⟨j, j1, j2, j3, j4⟩ := caps.get i x v e1 e2
      obtain ⟨m, hn, hl⟩ := I3.loc
      obtain ⟨u, r, l⟩ := hl j x v j1 j2 (.inr (.inl j3))
      refine ⟨u, r, .inr ⟨.inl j4, ?_⟩⟩
      rcases l with ⟨l, _⟩ | ⟨_, c, ec, hcell⟩
      · have l' : X.env.kindOf x = some .local := l
        rw [j3] at l'; cases l'
      · obtain ⟨k', hm, z | ⟨z, _⟩⟩ := relabel_mem j4
        · subst z; exact absurd rfl (‹∀ y ∈ scope.names, y.2 ≠ .cell› _ hm)
        · subst z
          obtain ⟨c', ec'⟩ := cl2 x hm
          have := cl1 x c' ec'
          rw [ec] at this; cases this
          obtain ⟨o, ho, hd⟩ := hcell
          exact ⟨c, ec', o, old _ _ ho, hd⟩
    · obtain ⟨v, o, ho, hd⟩ := I3.cell x c (cl1 x c e)
      exact ⟨v, o, old _ _ ho, hd⟩
    · exact I3.hok.fresh (Nat.le_refl _)
    · show (capS ix σ).length = N.length
      rw [← caps.length]; simp [capS]
  have st4 : tn 0 h₁ := T.keep 0 _ _ st2 fun b hb o e => old b o (by rw [← es3]; exact Heap.get?_push_of_some _ e)
  -- the block's end
  have fin6 : ∀ (s6 : Shared) (H6 : Hp), Inv (subCx X scope N cl s3.heap.objs.size s3 H3 fp E') [] (capS ix σ) H6 s6 → Q (.ref D) H6 →
      compPost (model X.prog X.w) X.A X.xe use Qv (.ref D) s3.heap.objs.size (.ok .next) s6 := fun s6 H6 I6 q => by
    obtain ⟨m, hn, _⟩ := I6.loc
    refine fin s3.heap.objs.size D H6 s6 ⟨I3.call' (s' := s6) (ch := fp) I6.os I6.base I6.hok I6.bare ?_, ⟨m, hn⟩, I6.free, ?_, I3.sz, ?_, ?_⟩ q
    · intro b hb
      obtain ⟨_, f1, _, f3, f4, f5⟩ := f2 b hb
      exact ⟨f3, f1, f4, f5⟩
    · exact Nat.ne_of_gt I3.lt
    · intro x c e z
      obtain ⟨v, o, ho, _⟩ := I3.cell x c e
      exact absurd (Heap.lt_size ho) (by rw [z]; exact Nat.lt_irrefl _)
    · intro p hp z
      exact absurd (Heap.lt_size (I3.pin p hp).1) (by rw [z]; exact Nat.lt_irrefl _)
  -- the loop
  have loop : ∀ s4 : Shared, s4 = { s3 with heap := h₁, toks := s2.toks + ([] : List (Str × Value)).length } →
      codeAny (model X.prog X.w) X.A (.compLoop (.ListComp elt [⟨tg, iter, ifs, 0⟩] scope pos) 0 (.ref it) (.ref D) (compEnvC scope cl s3.heap.objs.size X.env)) (compPost (model X.prog X.w) X.A X.xe use Qv (.ref D) s3.heap.objs.size) s4 := by
    rintro s4 rfl
    refine comp_loop (fun n s' => ∃ i ys H', Inv (subCx X scope N cl s3.heap.objs.size s3 H3 fp E') [] (capS ix σ) H' s' ∧ tn i s'.heap ∧ (∀ b ∈ fp, H' b = none) ∧ W i n ys H') ?_ m0 ⟨0, [], H3, I4 _, st4, fpD, w0⟩
    rintro n s5 ⟨i, ys, H5, I5, st5, fr5, w5⟩
    have stat : ∀ {H' : Hp}, (∀ b ∈ fp, H' b = none) → ∀ b ∈ fp, FpOk (subCx X scope N cl s3.heap.objs.size s3 H3 fp E') [] H' b := fun hn b hb => by
      refine ⟨hn b hb, fun z => ?_, fstk b hb, .inl hb, fun x c e => (f2 b hb).2.2.2.2.1 x c (cl1 x c e), fun p hp => (by cases hp)⟩
      have lt := fpl b hb
      have z' : b = s3.heap.objs.size := z
      rw [z', szC] at lt
      exact absurd lt (Nat.not_lt.mpr (Nat.le_succ D))
    rcases turn i n ys H5 w5 with ⟨stop, q⟩ | ⟨go, step⟩
    · refine thn (T.done (subCx X scope N cl s3.heap.objs.size s3 H3 fp E') rfl rfl rfl hc i [] s5 _ H5 E' I5 (stat fr5) st5 stop) fun r s6 ⟨hr, I6⟩ => ?_
      subst hr
      exact fin6 s6 H5 I6 q
    · refine thn (T.item (subCx X scope N cl s3.heap.objs.size s3 H3 fp E') rfl rfl rfl hc i [] s5 _ H5 E' I5 (stat fr5) st5 go) fun r s6 ⟨u, hr, h6⟩ => ?_
      subst hr
      refine thn h6 fun _ s7 ⟨x, H7, I7, r7, y7, st7, fr7⟩ => ?_
      have I7' := I7.pinned (stat fr7) (T.obj _ _ st7)
      refine thn (hg cl s3.heap.objs.size s3 H3 fp E' _ s7 _ H7 x u _ I7' r7 (step x H7 y7)) fun _ s8 ⟨σ8, H8, I8, ext, q8⟩ => ?_
      have again : ∀ {σ9 : St} {H9 : Hp} {s9 : Shared} {m' : Nat} {zs : List V}, Ext (capS ix σ) σ9 → Inv (subCx X scope N cl s3.heap.objs.size s3 H3 fp E') ([] ++ pinsAt fp s7.heap) σ9 H9 s9 → m' < n → W (i + 1) m' zs H9 →
          ∃ m, m < n ∧ ∃ i ys H', Inv (subCx X scope N cl s3.heap.objs.size s3 H3 fp E') [] (capS ix σ) H' s9 ∧ tn i s9.heap ∧ (∀ b ∈ fp, H' b = none) ∧ W i m ys H' := fun {σ9 H9 s9 m' zs} ex I9 hm w9 => by
        refine ⟨m', hm, i + 1, zs, H9, (I9.unpinned).weak ex.1.symm ex.2, T.keep _ _ _ st7 fun b hb o e => (I9.pin (b, o) (List.mem_append_right _ (List.mem_append_right _ (mem_pinsAt hb e)))).1, fun b hb => ?_, w9⟩
        obtain ⟨o, e, d⟩ := T.obj _ _ st7 b hb
        exact (I9.pin (b, o) (List.mem_append_right _ (List.mem_append_right _ (mem_pinsAt hb e)))).2.1
      refine thn (ht cl s3.heap.objs.size s3 H3 fp E' _ s8 σ8 H8 _ I8 q8) fun ok s9 ⟨H9, I9, q9⟩ => ?_
      cases ok with
      | false =>
        obtain ⟨m', hm, w9⟩ := q9
        exact again ext I9 hm w9
      | true =>
        refine thn (he cl s3.heap.objs.size s3 H3 fp E' _ s9 σ8 H9 _ I9 q9) fun u10 s10 ⟨v10, H10, I10, r10, hDl, hlt, m', hm, w10⟩ => ?_
        refine thn (mt_append (X := subCx X scope N cl s3.heap.objs.size s3 H3 fp E') _ s10 σ8 H10 (.ref D) [v10] (.ref D) [u10] (fun _ H' => H' = upd H10 D (.lst (ys ++ [v10]))) I10 rfl (.cons r10 .nil) ⟨D, ys, v10, rfl, rfl, hDl, hlt, rfl⟩) fun _ s11 ⟨_, H11, I11, _, e11⟩ => ?_
        subst e11
        exact again ext I11 hm w10
  exact codeAny_compStart_list (loop _ (by rw [← hs3])) (T.self _ 0 _ _ _ st4 (loop _ (by rw [← hs3])))
theorem pe_comp {elt tg iter : Expr} {ifs : List Expr} {scope : Scope} {pos : Pos} {N : List Str} {ix : List (Option Nat)} {wi : TI} {g : TG} {tt : TT} {te : TE}
    (hc : X.calm = true) (hi : PI X tg iter wi) (hk : scope.kind = .function) (hcell0 : noCell scope = true) (hfree0 : freeOk scope X.env = true) (hnames0 : namesOk scope = true) (caps : Caps X scope N ix)
    (hg : ∀ cl C s H fp xe, PG (subCx X scope N cl C s H fp xe) tg g) (ht : ∀ cl C s H fp xe, PTs (subCx X scope N cl C s H fp xe) ifs tt) (he : ∀ cl C s H fp xe, PE (subCx X scope N cl C s H fp xe) elt te)
    (hs : ∀ x, foldedSetIterable iter X.env x = pure x := by intro _; rfl) :
    PE X (.ListComp elt [⟨tg, iter, ifs, 0⟩] scope pos) (tComp wi g tt te ix) := by
  intro pins s σ H Q I h
  rw [eval_ListComp]
  refine comp_core (use := none) hc hi hk hcell0 hfree0 hnames0 caps hg ht he hs I h fun C D H6 s6 B q => ?_
  obtain ⟨m, hn⟩ := B.ns
  exact ⟨m, hn, fun h' hsb => ⟨.ref D, H6, B.gone hsb, rfl, q⟩⟩
noncomputable def tSetC (i : Nat) (te : TE) : TS := fun D σ H => te σ H fun x H1 => D.nx (σ.set i (some x)) H1
theorem ps_setComp {i : Nat} {y : Str} {py : Pos} {spos : Pos} {elt tg iter : Expr} {ifs : List Expr} {scope : Scope} {pos : Pos} {N : List Str} {ix : List (Option Nat)} {wi : TI} {g : TG} {tt : TT} {te : TE}
    (hN : X.N.Nodup) (hi' : X.N[i]? = some y) (hx : Loc X.env.scope y) (hsw : swapsWith (.ListComp elt [⟨tg, iter, ifs, 0⟩] scope pos) (some (.Name y py)) spos.line X.env = pure true)
    (hc : X.calm = true) (hi : PI X tg iter wi) (hk : scope.kind = .function) (hcell0 : noCell scope = true) (hfree0 : freeOk scope X.env = true) (hnames0 : namesOk scope = true) (caps : Caps X scope N ix)
    (hg : ∀ cl C s H fp xe, PG (subCx X scope N cl C s H fp xe) tg g) (ht : ∀ cl C s H fp xe, PTs (subCx X scope N cl C s H fp xe) ifs tt) (he : ∀ cl C s H fp xe, PE (subCx X scope N cl C s H fp xe) elt te)
    (hs : ∀ x, foldedSetIterable iter X.env x = pure x := by intro _; rfl) (hf : X.fn y = true ∨ X.env.scope.names.lookup y = some .local := by first | exact .inl rfl | exact .inr rfl | assumption) :
    PS X (.Assign [.Name y py] (.ListComp elt [⟨tg, iter, ifs, 0⟩] scope pos) spos) (tSetC i (tComp wi g tt te ix)) := by
  intro pins s σ H D I h
  rw [exec_Assign_Name_used _ _ _ _ hsw]
  refine wpAny_bind (wpAny_standAt (wpAny_bind ?_))
  show wpAny _ X.A (do let _ ← comprehension (.ListComp elt [⟨tg, iter, ifs, 0⟩] scope pos) scope X.env _ (newList []) false (eval iter X.env) (some (assign (.Name y py) X.env))) _ _ s
  refine wpAny_bind (wpAny_mono (comp_core (use := some (assign (.Name y py) X.env)) (Qv := fun _ s' => SP X pins D .next s') hc hi hk hcell0 hfree0 hnames0 caps hg ht he hs I h fun C a H6 s6 B q => ?_) (fun _ s' hq => wpAny_pure (wpAny_pure hq)) fun _ _ e => e)
  obtain ⟨m, hn⟩ := B.ns
  show wpAny _ X.A (assign (.Name y py) X.env (.ref a)) _ _ s6
  refine wpAny_assign_Name (store_ok2 B.inv hN hi' hx (v := .ref a) rfl (fun s7 I7 ⟨z, hz, hz'⟩ => ?_) hf)
  have hzC : C ≠ z := by
    rcases hz' with e | e
    · rw [e]; exact B.loc
    · exact fun w => B.cell y z e w.symm
  refine ⟨m, hn.sameBut hz hzC, fun h' hsb => ?_⟩
  have B7 : BlockEnd X pins (σ.set i (some (.ref a))) H6 C s7 := ⟨I7, ⟨m, hn.sameBut hz hzC⟩, B.free, B.loc, B.young, B.cell, B.pin⟩
  exact ⟨_, H6, B7.gone hsb, q⟩
theorem comp_list {K : PySem.W.Frag} {a : Addr} {xs : List V} {g : TG} {tt : TT} {te : TE} {σ0 : St} {H : Hp} {D : Addr} {Q : VK} (f : V → V) (hz : xs.length ≤ sizeLine) (hx : SqL K H a xs) (hD : H D = none)
    (hs : ∀ (i : Nat) (x : V) (H' : Hp) (R : VK) (R0 : Hp → Prop), xs[i]? = some x → (∀ b, b ≠ D → H' b = H b) → R (f x) H' → g x σ0 H' fun σ2 H2 => Ext σ0 σ2 ∧ tt σ2 H2 fun b H3 => if b = true then te σ2 H3 R else R0 H3)
    (hq : Q (.ref D) (upd H D (.lst (xs.map f)))) :
    CompW (Itl K a) g tt te σ0 D Q H := by
  have stays : ∀ ys : List V, SqL K (upd H D (.lst ys)) a xs := fun ys => by
    have sm : Same H (upd H D (.lst ys)) := fun b u q => by rw [upd_ne (ne_of_none q hD)]; exact q
    exact sm.seq hx
  refine ⟨fun i m ys H' => m = xs.length - i ∧ i ≤ xs.length ∧ ys = (xs.take i).map f ∧ H' = upd H D (.lst ys), ⟨xs.length, by simp, Nat.zero_le _, by simp, rfl⟩, ?_⟩
  rintro i m ys H' ⟨rfl, hi, rfl, rfl⟩
  by_cases hlt : i < xs.length
  · refine .inr ⟨⟨xs, xs[i], stays _, by simp [hlt]⟩, fun x H'' y => ?_⟩
    obtain ⟨e, y⟩ := y
    subst e
    have ex := y xs (stays _)
    refine hs i x _ _ _ ex (fun b hb => upd_ne hb) ⟨upd_same, by simp; omega, xs.length - (i + 1), by omega, rfl, hlt, ?_, ?_⟩
    · rw [List.take_add_one, ex, List.map_append]; rfl
    · rw [upd_upd]
  · have e : i = xs.length := by omega
    subst e
    refine .inl ⟨⟨xs, stays _, Nat.le_refl _⟩, ?_⟩
    rw [List.take_length]
    exact hq
end
end L2
set_option Elab.async false
set_option linter.all false
set_option maxRecDepth 100000
set_option maxHeartbeats 4000000
namespace L2
open PySem PySem.Spec PyProof.Rows
section
variable {P : Program} {w : World} {H : Hp} {h h' : Heap} {a : Addr} {o : HO}
theorem ObjOk.there (x : ObjOk P w H h a o) : ∃ u, h.get? a = some u := by
  cases o with
  | lst xs => obtain ⟨_, _, _, _, e⟩ := x; exact ⟨_, e⟩
  | tup xs => obtain ⟨_, _, _, _, e, _⟩ := x; exact ⟨_, e⟩
  | dK kvs => obtain ⟨_, _, _, _, _, _, _, e, _⟩ := x; exact ⟨_, e⟩
  | dT kvs => obtain ⟨_, _, _, _, _, _, _, e, _⟩ := x; exact ⟨_, e⟩
  | set S n => obtain ⟨_, _, _, _, e, _⟩ := x; exact ⟨_, e⟩
  | ins C dx fs => obtain ⟨_, _, _, e, _⟩ := x; exact ⟨_, e⟩
  | own y => obtain ⟨_, e⟩ := x; exact ⟨_, e⟩
  | xd fs => obtain ⟨_, ⟨_, _, _, e, _⟩, _⟩ := x; exact ⟨_, e⟩
  | rng lo hi => obtain ⟨_, _, _, e⟩ := x; exact ⟨_, e⟩
  | frz ob u => obtain ⟨e, _⟩ := x; exact ⟨_, e⟩
  | tbl ps => exact ⟨_, show h.get? a = some _ from x⟩
  | met f y => exact ⟨_, show h.get? a = some _ from x⟩
  | ext φ => obtain ⟨_, e, _⟩ := x; exact e
theorem HOk.none (x : HOk P w H h) (e : h.get? a = Option.none) : H a = Option.none := by
  cases q : H a with
  | none => rfl
  | some u =>
    obtain ⟨v, z⟩ := (x a u q).there
    rw [e] at z; cases z
theorem HOk.part (x : HOk P w H h) (k : ∀ b o, H b ≠ Option.none → h.get? b = some o → h'.get? b = some o) : HOk P w H h' := fun b u e => by
  refine (x b u e).stay (fun c v hc q => k c v ?_ q) (fun _ q => q) fun _ _ q => q
  intro z
  rcases hc with rfl | hc
  · rw [z] at e; cases e
  · rw [z] at hc; cases hc
end
noncomputable def Tr (h : Heap) (e T : Addr) (cls : Value) : Prop := ∃ oe vs oT ts a0, h.get? e = some oe ∧ oe.cls = cls ∧ vs[0]? = some a0 ∧ oe.data = .fields vs ∧ vs[1]? = some (.ref T) ∧ T ≠ e ∧ h.get? T = some oT ∧ oT.data = .fields ts ∧ ts[3]? = some Value.none
theorem rebase {h base base' : Heap} : ∀ {l : List Env}, h.FunFrames base l → (∀ b ∈ frs l, base'.get? b = none) → h.FunFrames base' l
  | [], _, _ => trivial
  | env :: r, ⟨hk, ⟨L, o, hf, _, ho, hd⟩, hr⟩, hb => by
    have hL : L ∈ frs (env :: r) := by unfold frs; rw [List.filterMap_cons, hf]; exact List.mem_cons_self
    refine ⟨hk, ⟨L, o, hf, hb L hL, ho, hd⟩, rebase hr fun b z => hb b ?_⟩
    unfold frs at z ⊢
    rw [List.filterMap_cons, hf]
    exact List.mem_cons_of_mem _ z
structure Kept (l : List Env) (ch : List Addr) (h h' : Heap) : Prop where
  keep : ∀ b o, b ∉ frs l → b ∉ ch → h.get? b = some o → h'.get? b = some o
  slot : ∀ b o, b ∈ frs l → h.get? b = some o → ∃ sl, h'.get? b = some { o with slots := sl }
section
variable {M : Model} {A : Around} {E : Value → Shared → Prop} {s : Shared} {Q : Unit → Shared → Prop} {base : Heap} {env : Env} {outer l : List Env} {L e T : Addr} {cls : Value}
theorem notf (hl : s.heap.FunFrames base l) {b : Addr} {o : Obj} (hb : b ∈ frs l) (q : s.heap.get? b = some o) : ∀ vs, o.data ≠ .fields vs := by
  obtain ⟨_, o', ho, hd⟩ := hl.mem hb
  rw [q] at ho; cases ho; exact hd
theorem trace_new {h h' : Heap} {ch : List Addr} (hl : h.FunFrames base l) {T' : Addr} {oT : Obj} {ts : Array Value} (hn : (PySem.W.hideAll h (frs l ++ ch)).get? T' = none) (hT : h'.get? T' = some oT) (hd : oT.data = .fields ts)
    (up : ∀ b o, h.get? b = some o → (∀ vs, o.data ≠ .fields vs) → ∃ sl, h'.get? b = some { o with slots := sl }) : T' ∈ ch ∨ h.get? T' = none := by
  cases q : h.get? T' with
  | none => exact .inr rfl
  | some o =>
    refine .inl ?_
    by_cases hm : T' ∈ frs l ++ ch
    · rcases List.mem_append.mp hm with z | z
      · obtain ⟨_, o', ho, hdo⟩ := hl.mem z
        obtain ⟨sl, e⟩ := up _ _ ho hdo
        rw [hT] at e; cases e
        exact absurd hd (hdo ts)
      · exact z
    · rw [PySem.W.hideAll_get _ q hm] at hn; cases hn
theorem leave_tr (hfr : A.frames = some (env :: outer)) (hl : s.heap.FunFrames base (env :: outer)) (hf : env.frame = some L) (tr : Tr s.heap e T cls)
    (hQ : ∀ h' T', Tr h' e T' cls → (T' = T ∨ s.heap.get? T' = none) → Kept (env :: outer) [e, T] s.heap h' → Q () { s with heap := h' }) : wpAny M A (leaving env (.ref e)) Q E s := by
  obtain ⟨oe, vs, oT, ts, a0, he, hc, h0, hd, h1, hTe, hT, hdT, h3⟩ := tr
  have hid : ∀ b, b ∈ frs (env :: outer) ++ [e, T] → (PySem.W.hideAll s.heap (frs (env :: outer) ++ [e, T])).get? b = none := fun b hb => PySem.W.hideAll_none _ hb
  refine wpAny_leaving_nextW (base := PySem.W.hideAll s.heap (frs (env :: outer) ++ [e, T])) (a0 := a0) (cls := cls) hfr (rebase hl fun b hb => hid b (List.mem_append_left _ hb)) hf
    ⟨oe, vs, T, oT, ts, he, ⟨hc, h0⟩, hd, h1, hid T (by simp), hTe, hT, hdT, h3⟩ (fun b o q => PySem.W.of_hideAll _ q) (hid e (by simp)) fun h' hL => ?_
  obtain ⟨k1, k2, ⟨oe', vs', T', oT', ts', he', ⟨hc', h0'⟩, hd', h1', hn', hTe', hT', hdT', h3'⟩, k4⟩ := hL
  refine hQ h' T' ⟨oe', vs', oT', ts', a0, he', hc', h0', hd', h1', hTe', hT', hdT', h3'⟩ ?_ ⟨fun b o hb hch q => k1 b o (PySem.W.hideAll_get _ q fun z => ?_), fun b o hb q => k4 b o q (notf hl hb q)⟩
  · rcases trace_new hl hn' hT' hdT' k4 with z | z
    · rcases List.mem_cons.mp z with z | z
      · exact absurd z hTe'
      · exact .inl (by simpa using z)
    · exact .inr z
  · rcases List.mem_append.mp z with z | z
    · exact hb z
    · exact hch z
theorem leave_new1 {oe : Obj} {vs : Array Value} {a0 : Value} (hfr : A.frames = some (env :: outer)) (hl : s.heap.FunFrames base (env :: outer)) (hf : env.frame = some L) (he : s.heap.get? e = some oe) (hc : oe.cls = cls) (hd : oe.data = .fields vs) (h0 : vs[0]? = some a0) (h1 : vs[1]? = some .none)
    (hQ : ∀ h' T', Tr h' e T' cls → s.heap.get? T' = none → Kept (env :: outer) [e] s.heap h' → Q () { s with heap := h' }) : wpAny M A (leaving env (.ref e)) Q E s := by
  have hid : ∀ b, b ∈ frs (env :: outer) ++ [e] → (PySem.W.hideAll s.heap (frs (env :: outer) ++ [e])).get? b = none := fun b hb => PySem.W.hideAll_none _ hb
  refine wpAny_leaving_firstW (base := PySem.W.hideAll s.heap (frs (env :: outer) ++ [e])) (a0 := a0) hfr (rebase hl fun b hb => hid b (List.mem_append_left _ hb)) hf he (fun b o q => PySem.W.of_hideAll _ q) (hid e (by simp)) hd h1 h0 fun h' hL => ?_
  obtain ⟨k1, k2, ⟨oe', vs', T', oT', ts', he', ⟨hc', h0'⟩, hd', h1', hn', hTe', hT', hdT', h3'⟩, k4⟩ := hL
  refine hQ h' T' ⟨oe', vs', oT', ts', a0, he', hc'.trans hc, h0', hd', h1', hTe', hT', hdT', h3'⟩ ?_ ⟨fun b o hb hch q => k1 b o (PySem.W.hideAll_get _ q fun z => ?_), fun b o hb q => k4 b o q (notf hl hb q)⟩
  · rcases trace_new hl hn' hT' hdT' k4 with z | z
    · exact absurd (by simpa using z) hTe'
    · exact z
  · rcases List.mem_append.mp z with z | z
    · exact hb z
    · exact hch z
theorem look_tr (hfr : A.frames = some (env :: outer)) (hl : s.heap.FunFrames base (env :: outer)) (hf : env.frame = some L) (tr : Tr s.heap e T cls)
    (hQ : ∀ h' T', Tr h' e T' cls → (T' = T ∨ s.heap.get? T' = none) → Kept (env :: outer) [e, T] s.heap h' → Q () { s with heap := h' }) :
    wpAny M A (noteFrame (.ref e) env) (fun _ s2 => wpAny M A (setFlight (.ref e) none) Q E s2) E s := by
  obtain ⟨oe, vs, oT, ts, a0, he, hc, h0, hd, h1, hTe, hT, hdT, h3⟩ := tr
  have hid : ∀ b, b ∈ frs (env :: outer) ++ [e, T] → (PySem.W.hideAll s.heap (frs (env :: outer) ++ [e, T])).get? b = none := fun b hb => PySem.W.hideAll_none _ hb
  refine wpAny_looks_onW (base := PySem.W.hideAll s.heap (frs (env :: outer) ++ [e, T])) (a0 := a0) (cls := cls) hfr hf
    ⟨fun b o q => PySem.W.of_hideAll _ q, hid e (by simp), rebase hl fun b hb => hid b (List.mem_append_left _ hb), oe, vs, T, oT, ts, he, ⟨hc, h0⟩, hd, h1, hid T (by simp), hTe, hT, hdT, h3⟩ fun h1' held up1 => ?_
  refine wpAny_landsW held fun h' fl up2 => ?_
  have up := Heap.UpToSlots.trans up1 up2
  obtain ⟨k1, _, k2, oe', vs', T', oT', ts', he', ⟨hc', h0'⟩, hd', h1', hn', hTe', hT', hdT', h3'⟩ := fl
  refine hQ h' T' ⟨oe', vs', oT', ts', a0, he', hc', h0', hd', h1', hTe', hT', hdT', h3'⟩ ?_ ⟨fun b o hb hch q => k1 b o (PySem.W.hideAll_get _ q fun z => ?_), fun b o hb q => up b o q (notf hl hb q)⟩
  · rcases trace_new hl hn' hT' hdT' up with z | z
    · rcases List.mem_cons.mp z with z | z
      · exact absurd z hTe'
      · exact .inl (by simpa using z)
    · exact .inr z
  · rcases List.mem_append.mp z with z | z
    · exact hb z
    · exact hch z
theorem again_tr (hl : s.heap.FunFrames base l) (tr : Tr s.heap e T cls)
    (hQ : ∀ h' T', Tr h' e T' cls → (T' = T ∨ s.heap.get? T' = none) → Kept l [e, T] s.heap h' → Q () { s with heap := h' }) : wpAny M A (setFlight (.ref e) none) Q E s := by
  obtain ⟨oe, vs, oT, ts, a0, he, hc, h0, hd, h1, hTe, hT, hdT, h3⟩ := tr
  have hid : ∀ b, b ∈ frs l ++ [e, T] → (PySem.W.hideAll s.heap (frs l ++ [e, T])).get? b = none := fun b hb => PySem.W.hideAll_none _ hb
  refine lands_againW (base := PySem.W.hideAll s.heap (frs l ++ [e, T])) (l := l) (a0 := a0) (cls := cls)
    ⟨fun b o q => PySem.W.of_hideAll _ q, hid e (by simp), rebase hl fun b hb => hid b (List.mem_append_left _ hb), oe, vs, T, oT, ts, he, ⟨hc, h0⟩, hd, h1, hid T (by simp), hTe, hT, hdT, h3⟩ fun h' fl up => ?_
  obtain ⟨k1, _, k2, oe', vs', T', oT', ts', he', ⟨hc', h0'⟩, hd', h1', hn', hTe', hT', hdT', h3'⟩ := fl
  refine hQ h' T' ⟨oe', vs', oT', ts', a0, he', hc', h0', hd', h1', hTe', hT', hdT', h3'⟩ ?_ ⟨fun b o hb hch q => k1 b o (PySem.W.hideAll_get _ q fun z => ?_), fun b o hb q => up b o q (notf hl hb q)⟩
  · rcases trace_new hl hn' hT' hdT' up with z | z
    · rcases List.mem_cons.mp z with z | z
      · exact absurd z hTe'
      · exact .inl (by simpa using z)
    · exact .inr z
  · rcases List.mem_append.mp z with z | z
    · exact hb z
    · exact hch z
end
section
variable {X : Cx} {pins : List (Addr × Obj)} {σ : St} {H : Hp} {s : Shared} {h' : Heap} {ch : List Addr}
structure Ours (X : Cx) (pins : List (Addr × Obj)) (H : Hp) (b : Addr) : Prop where
  new : X.s₀.heap.get? b = none
  free : H b = none
  loc : b ≠ X.env.locals
  cell : ∀ x c, X.env.cells.lookup x = some c → c ≠ b
  pin : ∀ p ∈ X.pn ++ pins, p.1 ≠ b
theorem Inv.ours (I : Inv X pins σ H s) (hx : X.ex = []) {b : Addr} (n : s.heap.get? b = none) : X.s₀.heap.get? b = none ∧ b ≠ X.env.locals ∧ (∀ x c, X.env.cells.lookup x = some c → c ≠ b) ∧ ∀ p ∈ X.pn ++ pins, p.1 ≠ b := by
  refine ⟨?_, ?_, fun x c e z => ?_, fun p hp z => ?_⟩
  · cases q : X.s₀.heap.get? b with
    | none => rfl
    | some o =>
      obtain ⟨o', e⟩ := I.base.there b o q (by rw [hx]; simp)
      rw [n] at e; cases e
  · rintro rfl
    obtain ⟨m, ⟨o, _, _, e, _⟩, _⟩ := I.loc
    rw [n] at e; cases e
  · subst z
    obtain ⟨v, o, e', _⟩ := I.cell x c e
    rw [n] at e'; cases e'
  · have := (I.pin p hp).1
    rw [z, n] at this; cases this
theorem Inv.exc (I : Inv X pins σ H s) (hx : X.ex = []) (ours : ∀ b ∈ ch, Ours X pins H b) (k : Kept X.stack ch s.heap h') : Inv X pins σ H { s with heap := h' } := by
  have sub := I.stkSub
  have above := I.ok.above
  have outs : ∀ b ∈ X.fs, b ∈ frs X.stack := fun b hb => by
    rcases I.ok.stk with e | ⟨e, hf⟩
    · rw [e]; exact hb
    · rw [e]
      show b ∈ frs (X.env :: X.outer)
      unfold frs
      rw [List.filterMap_cons, hf]
      exact List.mem_cons_of_mem _ hb
  have anyk : ∀ b o, b ∉ ch → s.heap.get? b = some o → ∃ sl, h'.get? b = some { o with slots := sl } := fun b o hc q => by
    by_cases hb : b ∈ frs X.stack
    · exact k.slot b o hb q
    · exact ⟨o.slots, k.keep b o hb hc q⟩
  have nch : ∀ b o, X.s₀.heap.get? b = some o → b ∉ ch := fun b o q z => by rw [(ours b z).new] at q; cases q
  have lch : X.env.locals ∉ ch := fun z => (ours _ z).loc rfl
  have cch : ∀ x c, X.env.cells.lookup x = some c → c ∉ ch := fun x c e z => (ours _ z).cell x c e rfl
  have cellK : ∀ x c v, X.env.cells.lookup x = some c → s.heap.IsCell c v → h'.IsCell c v := fun x c v e z => by
    obtain ⟨o, ho, hd⟩ := z
    obtain ⟨sl, q⟩ := anyk c o (cch x c e) ho
    exact ⟨_, q, hd⟩
  refine ⟨I.ok, I.os, I.bare, ⟨fun b o e n hb hxx => ?_, fun b o e n hb hxx => ?_, I.base.free, fun b o e hxx => ?_, I.base.tups, I.base.frzs, I.base.tbls⟩, ?_, fun x c e => ?_, I.free, I.freeC, fun p hp => ?_, ?_, I.len⟩
  · refine k.keep b o (fun z => ?_) (nch b o e) (I.base.keep b o e n hb hxx)
    rcases List.mem_cons.mp (sub b z) with z | z
    · exact absurd (Nat.lt_of_lt_of_le (Heap.lt_size e) above) (by rw [z]; exact Nat.lt_irrefl _)
    · exact hb z
  · obtain ⟨sl, e1⟩ := I.base.slot b o e n hb hxx
    obtain ⟨sl', e2⟩ := k.slot b _ (outs b hb) e1
    exact ⟨sl', e2⟩
  · obtain ⟨o', e1⟩ := I.base.there b o e hxx
    obtain ⟨sl, e2⟩ := anyk b o' (nch b o e) e1
    exact ⟨_, e2⟩
  · obtain ⟨m, ⟨o, es, ep, ho, r⟩, hl⟩ := I.loc
    obtain ⟨sl, q⟩ := anyk _ o lch ho
    refine ⟨m, ⟨_, es, ep, q, r⟩, fun i x v e1 e2 e3 => ?_⟩
    obtain ⟨u, ru, lk⟩ := hl i x v e1 e2 e3
    refine ⟨u, ru, ?_⟩
    rcases lk with z | ⟨z, c, e, ic⟩
    · exact .inl z
    · exact .inr ⟨z, c, e, cellK x c _ e ic⟩
  · obtain ⟨v, z⟩ := I.cell x c e
    exact ⟨v, cellK x c v e z⟩
  · obtain ⟨e, n, ne, nf, d⟩ := I.pin p hp
    refine ⟨k.keep p.1 p.2 (fun z => ?_) (fun z => (ours _ z).pin p hp rfl) e, n, ne, nf, d⟩
    rcases List.mem_cons.mp (sub _ z) with z | z
    · exact ne z
    · exact nf z
  · refine I.hok.part fun b o hb q => k.keep b o (fun z => hb (I.stkFree b z)) (fun z => hb (ours b z).free) q
end
noncomputable def CX1 (P : Program) (w : World) : CXT := fun outer H s E e s' => ∃ (ea T : Addr) (cls : Value) (H' : Hp), e = .ref ea ∧ s.heap.get? ea = none ∧ s.heap.get? T = none ∧ H' ea = none ∧ H' T = none ∧ Tr s'.heap ea T cls ∧
  s'.os = s.os ∧ AllBare s'.gens ∧ Un (frs outer) [] H H' s.heap s'.heap ∧ HOk P w H' s'.heap ∧ E cls none H'
theorem passN {P : Program} {w : World} {X : Cx} : Passes (CX1 P w) X E0 := fun _ _ _ _ _ _ _ ⟨_, _, _, _, _, _, _, _, _, _, _, _, _, _, q⟩ => q.elim
structure Thr (X : Cx) (E : XK) : Prop where
  made : ∀ {pins : List (Addr × Obj)} {σ : St} {H : Hp} {s : Shared} {e : Addr} {cls : Value} {vs : List Value} {h' : Heap}, Inv X pins σ H s → Heap.MadeExcOf s.heap h' e cls vs → E cls none H → X.xe (.ref e) { s with heap := h' }
  pass : Passes (CX1 X.prog X.w) X E
section
variable {P : Program} {w : World} {K : PySem.W.Frag} {mg : Str → Option Value} {base : Heap} {N : List Str} {qual : Str} {scope : Scope} {f : Addr} {cd : Value} {A : Around} {outer : List Env} {s : Shared} {H : Hp} {E : XK}
theorem lies_def {pins : List (Addr × Obj)} {σ : St} {H2 : Hp} {s2 : Shared} {ea T : Addr} {cls : Value} (I : Inv (cxOf (CX1 P w) P w K mg base N qual scope f cd A outer s H E) pins σ H2 s2) (tr : Tr s2.heap ea T cls)
    (n1 : s.heap.get? ea = none) (n2 : s.heap.get? T = none) (f1 : H2 ea = none) (f2 : H2 T = none) (q : E cls none H2) : (cxOf (CX1 P w) P w K mg base N qual scope f cd A outer s H E).xe (.ref ea) s2 := by
  have fr : (A.deeper (envOfC qual scope s.heap.objs.size f cd)).frames = some (envOfC qual scope s.heap.objs.size f cd :: outer) := I.ok.frames
  have above : s.heap.objs.size ≤ (envOfC qual scope s.heap.objs.size f cd).locals := I.ok.above
  have nex : ∀ b : Addr, b ∉ (cxOf (CX1 P w) P w K mg base N qual scope f cd A outer s H E).ex := fun b z => absurd (show b ∈ ([] : List Addr) from z) (by simp)
  have sub : ∀ b ∈ frs (envOfC qual scope s.heap.objs.size f cd :: outer), b = (envOfC qual scope s.heap.objs.size f cd).locals ∨ b ∈ frs outer := fun b hb => List.mem_cons.mp (I.stkSub b hb)
  have out : ∀ b ∈ frs outer, b ∈ frs (envOfC qual scope s.heap.objs.size f cd :: outer) := fun b hb => by
    unfold frs at hb ⊢
    rw [List.filterMap_cons]
    split
    · exact hb
    · exact List.mem_cons_of_mem _ hb
  refine leave_tr fr I.stack rfl tr fun h' T' tr' hT' k => ?_
  have anyk : ∀ b o, b ≠ ea → b ≠ T → s2.heap.get? b = some o → ∃ sl, h'.get? b = some { o with slots := sl } := fun b o h1 h2 z => by
    by_cases hb : b ∈ frs (envOfC qual scope s.heap.objs.size f cd :: outer)
    · exact k.slot b o hb z
    · exact ⟨o.slots, k.keep b o hb (by simp [h1, h2]) z⟩
  have ne : ∀ b o, s.heap.get? b = some o → b ≠ ea ∧ b ≠ T := fun b o z => ⟨fun y => (by rw [y, n1] at z; cases z), fun y => (by rw [y, n2] at z; cases z)⟩
  refine ⟨ea, T', cls, H2, rfl, n1, ?_, f1, ?_, tr', I.os, I.bare, ⟨fun b o z n hb hx => ?_, fun b o z n hb hx => ?_, fun b o z n hx => I.base.free b o z n (nex b), fun b o z hx => ?_, I.base.tups, I.base.frzs, I.base.tbls⟩, ?_, q⟩
  · rcases hT' with z | z
    · rw [z]; exact n2
    · cases y : s.heap.get? T' with
      | none => rfl
      | some o =>
        obtain ⟨o', e'⟩ := I.base.there T' o y (nex _)
        rw [z] at e'; cases e'
  · rcases hT' with z | z
    · rw [z]; exact f2
    · exact I.hok.none z
  · refine k.keep b o (fun y => ?_) (by have := ne b o z; simp [this.1, this.2]) (I.base.keep b o z n hb (nex b))
    rcases sub b y with y | y
    · exact absurd (Nat.lt_of_lt_of_le (Heap.lt_size z) above) (by rw [y]; exact Nat.lt_irrefl _)
    · exact hb y
  · obtain ⟨sl, e1⟩ := I.base.slot b o z n hb (nex b)
    obtain ⟨sl', e2⟩ := k.slot b _ (out b hb) e1
    exact ⟨sl', e2⟩
  · obtain ⟨o', e1⟩ := I.base.there b o z (nex b)
    obtain ⟨sl, e2⟩ := anyk b o' (ne b o z).1 (ne b o z).2 e1
    exact ⟨_, e2⟩
  · refine I.hok.part fun b o hb z => k.keep b o (fun y => hb (I.stkFree b y)) (fun y => ?_) z
    rcases List.mem_cons.mp y with y | y
    · exact hb (by rw [y]; exact f1)
    · exact hb (by rw [show b = T by simpa using y]; exact f2)
theorem thr_def : Thr (cxOf (CX1 P w) P w K mg base N qual scope f cd A outer s H E) E where
  made := fun {pins σ H1 s1 e cls vs h'} I m q => by
    obtain ⟨t, he, htn, ht⟩ := m.there
    have I2 : Inv (cxOf (CX1 P w) P w K mg base N qual scope f cd A outer s H E) pins σ H1 { s1 with heap := h' } := I.kept (t' := s1.toks) m.keeps
    have fr : (A.deeper (envOfC qual scope s.heap.objs.size f cd)).frames = some (envOfC qual scope s.heap.objs.size f cd :: outer) := I.ok.frames
    have above : s.heap.objs.size ≤ (envOfC qual scope s.heap.objs.size f cd).locals := I.ok.above
    have nex : ∀ b : Addr, b ∉ (cxOf (CX1 P w) P w K mg base N qual scope f cd A outer s H E).ex := fun b z => absurd (show b ∈ ([] : List Addr) from z) (by simp)
    have sub : ∀ b ∈ frs (envOfC qual scope s.heap.objs.size f cd :: outer), b = (envOfC qual scope s.heap.objs.size f cd).locals ∨ b ∈ frs outer := fun b hb => List.mem_cons.mp (I.stkSub b hb)
    have out : ∀ b ∈ frs outer, b ∈ frs (envOfC qual scope s.heap.objs.size f cd :: outer) := fun b hb => by
      unfold frs at hb ⊢
      rw [List.filterMap_cons]
      split
      · exact hb
      · exact List.mem_cons_of_mem _ hb
    have n1 : s.heap.get? e = none := (I.ours rfl m.new).1
    refine leave_new1 (cls := cls) fr I2.stack rfl he rfl rfl rfl rfl fun h2 T' tr' hT' k => ?_
    have anyk : ∀ b o, b ≠ e → h'.get? b = some o → ∃ sl, h2.get? b = some { o with slots := sl } := fun b o h1 z => by
      by_cases hb : b ∈ frs (envOfC qual scope s.heap.objs.size f cd :: outer)
      · exact k.slot b o hb z
      · exact ⟨o.slots, k.keep b o hb (by simp [h1]) z⟩
    have ne : ∀ b o, s.heap.get? b = some o → b ≠ e := fun b o z y => by rw [y, n1] at z; cases z
    refine ⟨e, T', cls, H1, rfl, n1, (I2.ours rfl hT').1, I.hok.none m.new, I2.hok.none hT', tr', I.os, I.bare, ⟨fun b o z n hb hx => ?_, fun b o z n hb hx => ?_, fun b o z n hx => I.base.free b o z n (nex b), fun b o z hx => ?_, I.base.tups, I.base.frzs, I.base.tbls⟩, ?_, q⟩
    · refine k.keep b o (fun y => ?_) (by simp [ne b o z]) (I2.base.keep b o z n hb (nex b))
      rcases sub b y with y | y
      · exact absurd (Nat.lt_of_lt_of_le (Heap.lt_size z) above) (by rw [y]; exact Nat.lt_irrefl _)
      · exact hb y
    · obtain ⟨sl, e1⟩ := I2.base.slot b o z n hb (nex b)
      obtain ⟨sl', e2⟩ := k.slot b _ (out b hb) e1
      exact ⟨sl', e2⟩
    · obtain ⟨o', e1⟩ := I2.base.there b o z (nex b)
      obtain ⟨sl, e2⟩ := anyk b o' (ne b o z) e1
      exact ⟨_, e2⟩
    · refine I2.hok.part fun b o hb z => k.keep b o (fun y => hb (I.stkFree b y)) (fun y => ?_) z
      exact hb (by rw [show b = e by simpa using y]; exact I.hok.none m.new)
  pass := fun pins σ H1 s1 e s2 I hcx => by
    obtain ⟨ea, T, cls, H2, rfl, n1, n2, f1, f2, tr, os, bare, un, hok, q⟩ := hcx
    have I2 := I.call' os un hok bare fun b z => absurd z (by simp)
    exact lies_def I2 tr (I.ours rfl n1).1 (I.ours rfl n2).1 f1 f2 q
end
section
variable {P : Program} {w : World} {K : PySem.W.Frag} {mg : Str → Option Value} {base : Heap}
theorem FnOk.up {CX : CXT} {k : Nat} {f : Addr} {fd : FuncData} {ps : List Str} {sp : Sp} (F : FnOk P w K mg base CX0 k f fd ps sp) : FnOk P w K mg base CX k f fd ps sp :=
  ⟨F.len, fun A outer s H args us vs Q E hr he hb hv hs => codeAny_mono (F.run A outer s H args us vs Q E hr he hb hv hs) fun r s' q => by
    cases r with
    | error e => exact False.elim q
    | ok fl => cases fl <;> exact q⟩
theorem Fun.okE {x qual : Str} {st : Stmt} {f : Addr} {fd : FuncData} {N ps : List Str} {k : Nat} {sp : Sp} (F : Fun K x qual st f fd) (S : FnScope N ps (defScope st)) (len : ∀ vs H Q E, sp vs H Q E → vs.length = ps.length)
    (hbody : ∀ (cdv : Value) (A : Around) (outer : List Env) (s : Shared) (H : Hp) (vs : List V) (Q : VK) (E : XK), Room k (A.deeper (envOfC qual (defScope st) s.heap.objs.size f cdv)) → sp vs H Q E →
      ∃ t, PSs (cxOf (CX1 P w) P w K mg base N qual (defScope st) f cdv A outer s H E) (defBody st) t ∧ t { nx := fun _ H' => Q .non H', rt := Q } (start N vs) H) : FnOk P w K mg base (CX1 P w) (k + 1) f fd ps sp := by
  obtain ⟨oc, od, kV, doc, pm, an, cdv, ct, osl, rfl, lk, hcd⟩ := F.ex
  exact fn_of lk hcd S len fun A outer s H vs Q E hr hsp => hbody cdv A outer s H vs Q E hr hsp
end
noncomputable abbrev veB : List Value := [.type "ValueError", .type "Exception", .type "BaseException", .type "object"]
noncomputable abbrev excI (K : PySem.W.Frag) (C : Addr) : Prop := PySem.W.excIn K C veB "ValueError.__new__" = true
theorem excObj {K : PySem.W.Frag} {h : Heap} {C : Addr} (X : K.In h) (q : excI K C) : ∃ bm N nm qn bs hd sn sub ab col dd k0 k1 k2 k3 k5 mN,
    h.get? C = some (excClassObj nm qn C N bs bm hd sn sub ab col dd k0 k1 k2 k3 k5 "ValueError.__new__") ∧ h.Ns N mN ∧ mN "__init__" = none ∧ OwnTail h veB bm := by
  unfold excI PySem.W.excIn at q
  split at q
  · rename_i dd cd sl ho
    split at q
    · rename_i C' bm k0 k1 k2 k3 n k5 hm hs
      obtain ⟨q5, q6⟩ := Bool.and_eq_true_iff.mp q
      obtain ⟨q4, hok⟩ := Bool.and_eq_true_iff.mp q5
      obtain ⟨q3, ht⟩ := Bool.and_eq_true_iff.mp q4
      obtain ⟨q2, hdel⟩ := Bool.and_eq_true_iff.mp q3
      obtain ⟨e1, e2⟩ := Bool.and_eq_true_iff.mp q2
      have e1 := beq_iff_eq.mp e1
      have e2 := beq_iff_eq.mp e2
      have hni := beq_iff_eq.mp q6
      subst e1 e2
      obtain ⟨nm, bs, mro, ns, qn, hd, sn, sub, ab, col, del⟩ := cd
      have hsl : sl = #[k0, k1, k2, k3, some (.builtin "ValueError.__new__"), k5] := by
        rw [← hs]
      have hdel' : del = false := by simpa using hdel
      have hm' : mro = .ref C' :: bm := hm
      subst hm' hdel' hsl
      exact ⟨bm, ns, nm, qn, bs, hd, sn, sub, ab, col, dd, k0, k1, k2, k3, k5, _, X _ _ ho, .of_isNs (PySem.W.isNs_of_in X hok), PySem.W.nsMap_none_of_in X hok hni, PySem.W.tail_of_in X ht⟩
    · cases q
  · cases q
noncomputable def tRaise (E : XK) (C : Addr) (t : TA) : TS := fun _ σ H => t σ H fun vs H1 => vs.length ≤ sizeLine ∧ E (.ref C) none H1
theorem ps_raise {X : Cx} {E : XK} {C : Addr} {x : Str} {np cpos pos : Pos} {a : Expr} {ta : TA} (T : Thr X E) (O : excI X.K C) (hg : Gl X x) (hm : X.mg x = some (.ref C)) (ha : PA X [a] ta) (hc : X.calm = true := by rfl)
    (hs : starEach [a] X.env = [(false, eval a X.env)] := by rfl) (hd : (x == ("__debug__" : Str)) = false := by decide) : PS X (.Raise (some (.Call (.Name x np) [a] [] cpos)) none pos) (tRaise E C ta) := by
  intro pins s σ H D I h
  obtain ⟨bm, N, nm, qn, bs, hd', sn, sub, ab, col, dd, k0, k1, k2, k3, k5, mN, hC, hN, hni, TL⟩ := excObj I.ok.mod.kin O
  refine wpAny_Raise_call_subT (C := C) (nm := nm) (q := qn) (N := N) (bs := bs) (bm := bm) (hdct := hd') (sn := sn) (sub := sub) (ab := ab) (col := col) (dd := dd) (k0 := k0) (k1 := k1) (k2 := k2) (k3 := k3) (k5 := k5)
    PySem.F.excBase_ValueError (mN := mN) (TL.hasType PySem.F.excBase_ValueError.hasBase) (I.ok.hd hc) (by rw [hs]; rfl) hni (ld_glob I hg hm ⟨rfl, ?_⟩ hd)
  have p := ha cpos pins s σ H _ I h
  rw [hs] at p ⊢
  exact Calls.evalArgs_plain (thn p fun us s1 ⟨vs, H1, I1, r, q⟩ => ⟨rfl, by rw [← r.length]; exact q.1, I1.bk _ _ hC, hN.keeps I1.bk, TL.keeps I1.bk, fun h' e m => T.made I1 m q.2⟩)
noncomputable def Cx.inExc (X : Cx) (e : Addr) : Cx := { X with A := X.A.mark (some (.ref e)), calm := false, xe := fun _ _ => False }
section
variable {X : Cx} {pins : List (Addr × Obj)} {σ : St} {H : Hp} {s : Shared} {e : Addr}
theorem Inv.inExc (I : Inv X pins σ H s) (e : Addr) : Inv (X.inExc e) pins σ H s :=
  ⟨⟨I.ok.mod, I.ok.kind, I.ok.glob, I.ok.blt, I.ok.above, I.ok.inj, I.ok.has, I.ok.cab, fun z => (by cases z), I.ok.frames, I.ok.stk, I.ok.exf, I.ok.bs, I.ok.bsz, I.ok.noex, I.ok.exfs, I.ok.funs, I.ok.frf⟩, I.os, I.bare, I.base, I.loc, I.cell, I.free, I.freeC, I.pin, I.hok, I.len⟩
theorem Inv.outExc (ok : X.Ok) (I : Inv (X.inExc e) pins σ H s) : Inv X pins σ H s := ⟨ok, I.os, I.bare, I.base, I.loc, I.cell, I.free, I.freeC, I.pin, I.hok, I.len⟩
end
noncomputable def PEx (X : Cx) (e : Expr) (t : XK → TE) : Prop := ∀ (E : XK) (σ : St) (pn' : List (Addr × Obj)) (xe' : Value → Shared → Prop),
  (∀ (pins : List (Addr × Obj)) (H : Hp) (s : Shared) (v : Value) (s' : Shared), Inv { X with pn := pn', xe := xe' } pins σ H s → CX1 X.prog X.w X.stack H s E v s' → xe' v s') →
  ∀ (pins : List (Addr × Obj)) (s : Shared) (H : Hp) (Q : VK), Inv { X with pn := pn', xe := xe' } pins σ H s → t E σ H Q → wpAny (model X.prog X.w) X.A (eval e X.env) (EP { X with pn := pn', xe := xe' } pins σ Q) xe' s
theorem run_at {X : Cx} {CX : CXT} {k : Nat} {f : Addr} {fd : FuncData} {ps : List Str} {sp : Sp} {E : XK} {pins : List (Addr × Obj)} {σ : St} {H : Hp} {s : Shared} {Q : VK} {us : List Value} {vs : List V}
    (F : FnOk X.prog X.w X.K X.mg X.base CX k f fd ps sp) (hr : Room k X.A) (hb : Binds X.K fd ps []) (hx : ∀ (pins : List (Addr × Obj)) (H : Hp) (s : Shared) (v : Value) (s' : Shared), Inv X pins σ H s → CX X.stack H s E v s' → X.xe v s')
    (I : Inv X pins σ H s) (r : Vals vs us) (h : sp vs H Q E) : wpAny (model X.prog X.w) X.A (call (.ref f) us) (EP X pins σ Q) X.xe s := by
  have hl : us.length = ps.length := by rw [← r.length]; exact F.len _ _ _ _ h
  have hb' := hb s us I.kIn (by rw [List.append_nil]; exact hl)
  rw [List.append_nil] at hb'
  refine wpAny_call (codeAny_mono (F.run X.A X.stack s H ⟨us, []⟩ us vs Q E hr I.env0 hb' r h) fun r s' hq => ?_)
  cases r with
  | error v => exact hx pins H s v s' I hq
  | ok fl => cases fl <;> first | exact I.after hq | exact False.elim hq
end L2
set_option Elab.async false
set_option linter.all false
set_option maxRecDepth 100000
set_option maxHeartbeats 4000000
namespace L2
open PySem PySem.Spec PyProof.Rows
structure Def (P : Program) (w : World) (K : PySem.W.Frag) (mg : Str → Option Value) (base : Heap) (x : Str) (ps : List Str) (k : Nat) (sp : Sp) (f : Addr) (fd : FuncData) : Prop where
  ok : FnOk P w K mg base (CX1 P w) k f fd ps sp
  b : Binds K fd ps []
  kp : PySem.W.keepIn K (.ref f) = true
  m : mg x = some (.ref f)
section
variable {X : Cx} {f : Addr} {fd : FuncData} {ps : List Str} {sp : Sp} {x : Str} {p pos : Pos} {e : Expr} {es : List Expr} {t : TA} {j k : Nat}
theorem pcall (D : Def X.prog X.w X.K X.mg X.base x ps j sp f fd) (hr : Room k X.A) (ha : PA X (e :: es) t) (hjk : j ≤ k := by decide) (hg : Gl X x := by rfl)
    (hdb : (x == ("__debug__" : Str)) = false := by decide) (he : starEach (e :: es) X.env = (false, eval e X.env) :: starEach es X.env := by rfl) (hpl : (backTo pos (starEach es X.env)).any (·.1) = false := by rfl) :
    PE X (.Call (.Name x p) (e :: es) [] pos) (tCall sp [] E0 t) := pe_call D.ok (hr.mono hjk) hg D.m D.kp D.b .nil passN ha hdb he hpl
end
theorem bb_isinstance : bootBuiltins "isinstance" = some (.builtin "isinstance") := by decide +kernel
theorem bb_int : bootBuiltins "int" = some (.type "int") := by decide +kernel
theorem bb_bool : bootBuiltins "bool" = some (.type "bool") := by decide +kernel
theorem bb_list : bootBuiltins "list" = some (.type "list") := by decide +kernel
theorem bb_min : bootBuiltins "min" = some (.builtin "min") := by decide +kernel
theorem bb_max : bootBuiltins "max" = some (.builtin "max") := by decide +kernel
theorem bb_len : bootBuiltins "len" = some (.builtin "len") := by decide +kernel
theorem Same.upd {H H' : Hp} (h : Same H H') {p : Addr} (n : H p = none) (o : HO) : Same H (L2.upd H' p o) := fun b u q => by
  rw [upd_ne (ne_of_none q n)]; exact h b u q
theorem Same.new {H H' : Hp} (h : Same H H') {p : Addr} (n : H' p = none) (o : HO) : Same H (L2.upd H' p o) := h.trans fun b u q => by
  rw [upd_ne (ne_of_none q n)]; exact q
theorem sz {n : Nat} (h : n ≤ 1000000) : n ≤ sizeLine := Nat.le_trans h (by decide)
theorem sz' {n : Nat} (h : n ≤ 1000000) : n < sizeLine := Nat.lt_of_le_of_lt h (by decide)
theorem kit_int_int {K : PySem.W.Frag} : PySem.W.kitOne K (.type "int") (.type "int") = some true := by rfl
theorem kit_bool_bool {K : PySem.W.Frag} : PySem.W.kitOne K (.type "bool") (.type "bool") = some true := by rfl
theorem kit_int_bool {K : PySem.W.Frag} : PySem.W.kitOne K (.type "int") (.type "bool") = some false := by rfl
theorem atI_int {ns : List Int} {i : Int} (h0 : 0 ≤ i) (h1 : i < (ns.length : Int)) : atI (ns.map V.int) i = some (.int (ns.getD i.toNat 0)) := by
  have hk : i.toNat < ns.length := by omega
  have ek : i = ((i.toNat : Nat) : Int) := by omega
  have q : atI (ns.map V.int) ((i.toNat : Nat) : Int) = some (.int (ns.getD i.toNat 0)) := atI_nat (by rw [List.getElem?_map, List.getD_eq_getElem?_getD, List.getElem?_eq_getElem hk] <;> rfl)
  rw [← ek] at q
  exact q
end L2
namespace L2
open PySem PySem.Spec PyProof.Rows
theorem ttN {σ : St} {H : Hp} {F : Bool → Hp → Prop} (h : F true H) : ttNil σ H F := h
theorem pm {j : Int} (h : 0 < j) : 0 < j := h
noncomputable def cutI (ns : List Int) (lo hi : Option Int) : List Int := (ns.drop (HT.sIx ns.length 0 lo)).take (HT.sIx ns.length ns.length hi - HT.sIx ns.length 0 lo)
theorem cutV_map (ns : List Int) (lo hi : Option Int) : cutV (ns.map V.int) lo hi = (cutI ns lo hi).map V.int := by
  unfold cutV cutI
  rw [List.length_map, List.map_take, List.map_drop]
theorem get_int {ns : List Int} {i : Nat} {x : V} (h : (ns.map V.int)[i]? = some x) : ∃ c, x = .int c := by
  rw [List.getElem?_map] at h
  cases e : ns[i]? with
  | none => rw [e] at h; cases h
  | some c => rw [e] at h; cases h; exact ⟨c, rfl⟩
end L2
namespace L2
open PySem PySem.Spec PyProof.Rows
noncomputable def tCut (t u : TS) : TS := fun D σ H => ∃ P : St → Hp → Prop, t { D with nx := P } σ H ∧ ∀ σ' H', P σ' H' → u D σ' H'
theorem pss_cut {X : Cx} {st : Stmt} {rest : List Stmt} {t u : TS} (h1 : PS X st t) (h2 : PSs X rest u) : PSs X (st :: rest) (tCut t u) := by
  intro pins s σ H D I h
  obtain ⟨P, ha, hb⟩ := h
  refine wpAny_execs_cons (thn (h1 pins s σ H { D with nx := P } I ha) fun f s1 q => ?_)
  cases f with
  | next =>
    obtain ⟨σ', H', I', q⟩ := q
    exact h2 pins s1 σ' H' D I' (hb σ' H' q)
  | ret v => exact q
  | brk => exact q
  | cont => exact q
theorem iteP {c A B : Prop} [Decidable c] (hc : c) (h : A) : if decide c = true then A else B := by rw [decide_eq_true hc]; exact iteT h
theorem iteN {c A B : Prop} [Decidable c] (hc : ¬ c) (h : B) : if decide c = true then A else B := by rw [decide_eq_false hc]; exact iteF h
theorem ixN_nat {n : Nat} {i : Int} (h0 : 0 ≤ i) (h1 : i < n) : ixN n i = some i.toNat := by unfold ixN; rw [if_pos h0, if_pos h1]
theorem cutI_length (ns : List Int) (lo hi : Option Int) : (cutI ns lo hi).length ≤ ns.length := by
  unfold cutI; rw [List.length_take, List.length_drop]; omega
end L2
namespace Ck
noncomputable def shL : Nat → List Int
  | 0 => [1]
  | k + 1 => shL k ++ [((List.range (k + 1)).map fun j => (shL k).getD j 0 * (shL k).getD (k - j) 0).sum]
noncomputable def sh (k : Nat) : Int := (shL k).getD k 0
end Ck
namespace Ck
noncomputable def r : Nat → Nat → Int
  | 0, _ => 1
  | _ + 1, 0 => 0
  | u + 1, d + 1 => if d < u then 0 else r u (d + 1) + r (u + 1) d
noncomputable def row (n u : Nat) : List Int := (List.range (n + 1 - u)).map fun i => r u (u + i)
noncomputable def pw (a : Int) : Nat → Int
  | 0 => 1
  | k + 1 => pw a k * a
end Ck
namespace Ck
inductive Good : Nat → Nat → List Nat → Prop
  | nil : Good 0 0 []
  | up {u d : Nat} {t : List Nat} (h : Good u d t) (le : u + 1 ≤ d) : Good (u + 1) d (40 :: t)
  | down {u d : Nat} {t : List Nat} (h : Good u d t) (le : u ≤ d) : Good u (d + 1) (41 :: t)
noncomputable def lt : List Nat → List Nat → Bool
  | c :: s, e :: t => if c = e then lt s t else c == 40
  | _, _ => false
end Ck
set_option Elab.async false
set_option linter.all false
set_option maxRecDepth 100000
set_option maxHeartbeats 4000000
namespace Ck
open PySem
noncomputable def ix (n d : Nat) : Option Int → Nat
  | none => d
  | some v => if v < 0 then (v + (n : Int)).toNat else min v.toNat n
end Ck
set_option Elab.async false
set_option linter.all false
set_option maxRecDepth 100000
set_option maxHeartbeats 4000000
namespace Ck
open PySem L2
end Ck
namespace L2
open PySem
end L2
namespace Ck
open PySem L2
structure Tab (H : Hp) (p : Addr) (n m : Nat) (T : List Addr) : Prop where
  at_ : H p = some (.lst (T.map V.ref))
  len : T.length = m
  rows : ∀ (u : Nat) (t : Addr), T[u]? = some t → H t = some (.lst ((row n u).map V.int))
end Ck
namespace L2
open PySem PySem.Spec PyProof.Rows
end L2
namespace Ck
open PySem L2
end Ck
set_option Elab.async false
set_option linter.all false
set_option maxRecDepth 100000
set_option maxHeartbeats 4000000
namespace L2
open PySem PySem.Spec PyProof.Rows
section
variable {X : Cx} {tg : Expr}
end
section
variable {X : Cx}
end
end L2
set_option Elab.async false
set_option linter.all false
set_option maxRecDepth 100000
set_option maxHeartbeats 4000000
namespace L2
open PySem PySem.Spec PyProof.Rows PySem.W Builtin Builtin.ObjectAttr Builtin.Getset_descriptor
section
variable {K : Frag} {e C : Addr} {M : Model} {h : Heap} {prog : Program} {w : World} {A : Around} {E : Value → Shared → Prop} {s : Shared}
end
section
variable {K : Frag} {e C : Addr} {M : Model} {h : Heap} {prog : Program} {w : World} {A : Around} {E : Value → Shared → Prop} {s : Shared}
end
section
variable {X : Cx}
end
end L2
namespace Ck
open PySem L2
end Ck
set_option Elab.async false
set_option linter.all false
set_option maxRecDepth 100000
set_option maxHeartbeats 4000000
namespace L2
open PySem PySem.Spec PyProof.Rows
structure MDef (P : Program) (w : World) (K : PySem.W.Frag) (mg : Str → Option Value) (base : Heap) (ps : List Str) (k : Nat) (sp : Sp) (f : Addr) (fd : FuncData) : Prop where
  ok : FnOk P w K mg base (CX1 P w) k f fd ps sp
  b : Binds K fd ps []
section
variable {X : Cx} {C f : Addr} {fd : FuncData} {ps : List Str} {sp : Sp} {m : Str} {apos pos : Pos} {o e : Expr} {es : List Expr} {ta : TE} {t : TA} {j k : Nat}
theorem pmeth {pl : Sem Bool} (ho : PE X o ta) (c : Cls X.K C) (hm : Meth X.K C m f) (D : MDef X.prog X.w X.K X.mg X.base ps j sp f fd) (hr : Room k X.A) (ha : PA X (e :: es) t) (hjk : j ≤ k := by decide)
    (hst : starEach (e :: es) X.env = (false, eval e X.env) :: starEach es X.env := by rfl) (hpl : (backTo pos (starEach es X.env)).any (·.1) = false := by rfl)
    (ht : eval (.Call (.Attribute o m apos) (e :: es) [] pos) X.env = (do
      let ov ← eval o X.env
      standAt apos.atName
      let (f, first) ← holding [ov] (getMethod ov m pl)
      callWith pos f first (backTo pos (starEach (e :: es) X.env)) (backToKw pos (keywordEach [] X.env))) := by rfl) :
    PE X (.Call (.Attribute o m apos) (e :: es) [] pos) (tMeth C m sp [] E0 ta t) := pe_meth ho c hm D.ok (hr.mono hjk) D.b .nil passN ha hst hpl ht
theorem pmethT {E : XK} (T : Thr X E) {pl : Sem Bool} (ho : PE X o ta) (c : Cls X.K C) (hm : Meth X.K C m f) (D : MDef X.prog X.w X.K X.mg X.base ps j sp f fd) (hr : Room k X.A) (ha : PA X (e :: es) t) (hjk : j ≤ k := by decide)
    (hst : starEach (e :: es) X.env = (false, eval e X.env) :: starEach es X.env := by rfl) (hpl : (backTo pos (starEach es X.env)).any (·.1) = false := by rfl)
    (ht : eval (.Call (.Attribute o m apos) (e :: es) [] pos) X.env = (do
      let ov ← eval o X.env
      standAt apos.atName
      let (f, first) ← holding [ov] (getMethod ov m pl)
      callWith pos f first (backTo pos (starEach (e :: es) X.env)) (backToKw pos (keywordEach [] X.env))) := by rfl) :
    PE X (.Call (.Attribute o m apos) (e :: es) [] pos) (tMeth C m sp [] E ta t) := pe_meth ho c hm D.ok (hr.mono hjk) D.b .nil T.pass ha hst hpl ht
theorem px_meth {pl : Sem Bool} (ho : ∀ (pn' : List (Addr × Obj)) (xe' : Value → Shared → Prop), PE { X with pn := pn', xe := xe' } o ta) (c : Cls X.K C) (hm : Meth X.K C m f) (D : MDef X.prog X.w X.K X.mg X.base ps j sp f fd) (hr : Room k X.A)
    (ha : ∀ (pn' : List (Addr × Obj)) (xe' : Value → Shared → Prop), PA { X with pn := pn', xe := xe' } (e :: es) t) (hjk : j ≤ k := by decide)
    (hst : starEach (e :: es) X.env = (false, eval e X.env) :: starEach es X.env := by rfl) (hpl : (backTo pos (starEach es X.env)).any (·.1) = false := by rfl)
    (ht : eval (.Call (.Attribute o m apos) (e :: es) [] pos) X.env = (do
      let ov ← eval o X.env
      standAt apos.atName
      let (f, first) ← holding [ov] (getMethod ov m pl)
      callWith pos f first (backTo pos (starEach (e :: es) X.env)) (backToKw pos (keywordEach [] X.env))) := by rfl) :
    PEx X (.Call (.Attribute o m apos) (e :: es) [] pos) (fun E => tMeth C m sp [] E ta t) := by
  intro E σ pn' xe' hp pins s H Q I h
  refine PySem.W.methodCall_KW (pl := pl) (thn (ho pn' xe' pins s σ H _ I h) fun u s1 ⟨x, H1, I1, rx, a, dx, fs, ex, ea, l, q⟩ => ?_) ht
  subst ex
  obtain rfl : u = Value.ref a := rx
  refine getmeth_ok (X := { X with pn := pn', xe := xe' }) I1 ea c hm l ?_
  refine PySem.W.callWith_K (first := [.ref a]) (h₀ := X.base) I.ok.mod.kin hm.kp (thn (ha pn' xe' pos pins s1 σ H1 _ I1 q) fun us s2 ⟨vs, H2, I2, r, q2⟩ => ⟨I2.kIn, ?_⟩) hst hpl
  have q3 : sp (.ref a :: (vs ++ [])) H2 Q E := q2
  rw [List.append_nil] at q3
  exact run_at (X := { X with pn := pn', xe := xe' }) (us := .ref a :: us) (vs := .ref a :: vs) D.ok (hr.mono hjk) D.b hp I2 (.cons rfl r) q3
end
noncomputable def tTryNo (K : PySem.W.Frag) (Ck : Addr) (tb : XK → TE) (ts : TS) : TS := fun D σ H =>
  tb (fun cls _ H1 => PySem.W.exmOne K cls (.ref Ck) = some true ∧ ts D σ H1) σ H fun _ H1 => D.nx σ H1
theorem ps_tryNo {X : Cx} {call : Expr} {tb : XK → TE} {c : Str} {Ck : Addr} {b₀ : Stmt} {suite : List Stmt} {ts : TS} {ep cp hp pos : Pos}
    (hx : X.ex = []) (hst : X.stack = X.env :: X.outer) (hf : X.env.frame = some X.env.locals) (hg : Gl X c) (hm : X.mg c = some (.ref Ck))
    (hb : PEx X call tb) (hs : ∀ e, PSs (X.inExc e) (b₀ :: suite) ts) (hsw : swapsWith call none ep.line X.env = pure false := by rfl) (hd : (c == ("__debug__" : Str)) = false := by decide) :
    PS X (.Try [.Expr call ep] [.ExceptHandler (some (.Name c cp)) none (b₀ :: suite) hp] [] [] pos) (tTryNo X.K Ck tb ts) := by
  intro pins s σ H D I h
  refine wpAny_Try_except ?_
  unfold tTryNo at h
  generalize hE : (fun (cls : Value) (_ : Option Addr) (H1 : Hp) => PySem.W.exmOne X.K cls (.ref Ck) = some true ∧ ts D σ H1) = E at h
  have ok' : ∀ xe', ({ X with pn := X.pn ++ pins, xe := xe' } : Cx).Ok := fun xe' =>
    ⟨I.ok.mod, I.ok.kind, I.ok.glob, I.ok.blt, I.ok.above, I.ok.inj, I.ok.has, I.ok.cab, I.ok.hd, I.ok.frames, I.ok.stk, I.ok.exf, I.ok.bs, I.ok.bsz, I.ok.noex, I.ok.exfs, I.ok.funs, I.ok.frf⟩
  have toX : ∀ {xe' pins' σ' H' s'}, Inv ({ X with pn := X.pn ++ pins, xe := xe' } : Cx) pins' σ' H' s' → Inv X pins σ' H' s' := fun J =>
    ⟨I.ok, J.os, J.bare, J.base, J.loc, J.cell, J.free, J.freeC, fun p hp => J.pin p (List.mem_append_left _ hp), J.hok, J.len⟩
  have I' : Inv ({ X with pn := X.pn ++ pins, xe := fun v s' => ∃ H1 s1, Inv X pins σ H1 s1 ∧ CX1 X.prog X.w X.stack H1 s1 E v s' } : Cx) [] σ H s :=
    ⟨ok' _, I.os, I.bare, I.base, I.loc, I.cell, I.free, I.freeC, fun p hp => I.pin p (by simpa using hp), I.hok, I.len⟩
  have body := hb E σ (X.pn ++ pins) (fun v s' => ∃ H1 s1, Inv X pins σ H1 s1 ∧ CX1 X.prog X.w X.stack H1 s1 E v s') (fun pins' H1 s1 v s' J q => ⟨H1, s1, toX J, q⟩) [] s H _ I' h
  refine wpAny_mono (wpAny_execs_cons (wpAny_Expr_any (thn body fun v s1 q => ?_) I.quiet hsw) : wpAny (model X.prog X.w) X.A (execs [.Expr call ep] X.env) (fun f s1 => f = .next ∧ ∃ H1, Inv X pins σ H1 s1 ∧ D.nx σ H1) _ s) (fun f s1 q => ?_) ?_
  · obtain ⟨x, H1, J, r, q⟩ := q
    exact wpAny_execs_nil ⟨rfl, H1, toX J, q⟩
  · obtain ⟨rfl, H1, J, q⟩ := q
    exact wpAny_execs_nil ⟨σ, H1, J, q⟩
  · rintro v s' ⟨H1, s1, I1, ea, T, cls, H2, rfl, n1, n2, f1, f2, tr, os, bare, un, hok, hE'⟩
    rw [← hE] at hE'
    obtain ⟨hmt, hsu⟩ := hE'
    have I2 : Inv X pins σ H2 s' := I1.call' os un hok bare fun b z => absurd z (by simp)
    have o1 := I1.ours hx n1
    have o2 := I1.ours hx n2
    have u1 : Ours X pins H2 ea := ⟨o1.1, f1, o1.2.1, o1.2.2.1, o1.2.2.2⟩
    have u2 : Ours X pins H2 T := ⟨o2.1, f2, o2.2.1, o2.2.2.1, o2.2.2.2⟩
    have fr : X.A.frames = some (X.env :: X.outer) := by rw [← hst]; exact I.ok.frames
    have fn : s'.heap.FunFrames X.base (X.env :: X.outer) := by rw [← hst]; exact I2.stack
    refine look_tr fr fn hf tr fun h3 T3 tr3 hT3 k3 => ?_
    have I3 : Inv X pins σ H2 { s' with heap := h3 } := I2.exc hx (ch := [ea, T]) (fun b hb => by
      rcases List.mem_cons.mp hb with z | z
      · rw [z]; exact u1
      · rw [show b = T by simpa using z]; exact u2) (by rw [hst]; exact k3)
    have u3 : Ours X pins H2 T3 := by
      rcases hT3 with z | z
      · rw [z]; exact u2
      · have o3 := I2.ours hx z
        exact ⟨o3.1, I2.hok.none z, o3.2.1, o3.2.2.1, o3.2.2.2⟩
    have LT : PySem.W.Looks (model X.prog X.w) h3 (typeOf (.ref ea)) cls := by
      obtain ⟨oe, vs, oT, ts, a0, he, hc, _⟩ := tr3
      subst hc
      exact (PySem.W.Looks.ld he).andThen .now
    refine wpAny_handleBy_cons (codeAny_handlers_test (ld_glob (I3.inExc ea) hg hm ?_ hd)) (by intro q; cases q)
    refine (PySem.W.exm_one (M := model X.prog X.w) I3.kIn LT hmt) _ _ _ _ (fun _ _ q => q) ?_
    show codeAny _ _ (.handlers (.ref ea) [.ExceptHandler none none (b₀ :: suite) hp] X.env) _ _
    refine codeAny_handlers_suite (again_tr (base := X.base) (l := X.stack) I3.stack tr3 fun h5 T5 tr5 hT5 k5 => ?_)
    have I5 : Inv X pins σ H2 { s' with heap := h5 } := Inv.exc (s := { s' with heap := h3 }) I3 hx (ch := [ea, T3]) (fun b hb => by
      rcases List.mem_cons.mp hb with z | z
      · rw [z]; exact u1
      · rw [show b = T3 by simpa using z]; exact u3) k5
    refine wpAny_mono (hs ea pins _ _ _ _ (I5.inExc ea) hsu) (fun f s7 q => ?_) (fun _ _ z => z.elim)
    cases f with
    | next => obtain ⟨σ', H', J, q⟩ := q; exact ⟨σ', H', J.outExc I.ok, q⟩
    | brk => obtain ⟨σ', H', J, q⟩ := q; exact ⟨σ', H', J.outExc I.ok, q⟩
    | cont => obtain ⟨σ', H', J, q⟩ := q; exact ⟨σ', H', J.outExc I.ok, q⟩
    | ret u => obtain ⟨v, σ', H', J, r, q⟩ := q; exact ⟨v, σ', H', J.outExc I.ok, r, q⟩
structure ClsM (K : PySem.W.Frag) (C : Addr) (m : Str) (f : Addr) : Prop where
  hg : PySem.W.specialIn K (.ref C) "__getattribute__" = some (some (.builtin "type.__getattribute__"))
  rd : PySem.W.readsIn K C (.type "type") = true
  at_ : PySem.W.findCls K (.ref C) (.type "type") m = some (.val (.ref f))
  kp : PySem.W.keepIn K (.ref f) = true
section
variable {X : Cx} {C f : Addr} {fd : FuncData} {ps : List Str} {sp : Sp} {x m : Str} {p apos pos : Pos} {e : Expr} {es : List Expr} {t : TA} {j k : Nat}
theorem pcls {pl : Sem Bool} (hm : X.mg x = some (.ref C)) (M : ClsM X.K C m f) (D : MDef X.prog X.w X.K X.mg X.base ps j sp f fd) (hr : Room k X.A) (ha : PA X (e :: es) t) (hjk : j ≤ k := by decide) (hg : Gl X x := by rfl)
    (hdb : (x == ("__debug__" : Str)) = false := by decide) (hst : starEach (e :: es) X.env = (false, eval e X.env) :: starEach es X.env := by rfl) (hpl : (backTo pos (starEach es X.env)).any (·.1) = false := by rfl)
    (ht : eval (.Call (.Attribute (.Name x p) m apos) (e :: es) [] pos) X.env = (do
      let ov ← eval (.Name x p) X.env
      standAt apos.atName
      let (f, first) ← holding [ov] (getMethod ov m pl)
      callWith pos f first (backTo pos (starEach (e :: es) X.env)) (backToKw pos (keywordEach [] X.env))) := by rfl) :
    PE X (.Call (.Attribute (.Name x p) m apos) (e :: es) [] pos) (tCall sp [] E0 t) := by
  intro pins s σ H Q I h
  refine PySem.W.methodCall_KW (pl := pl) (ld_glob I hg hm ?_ hdb) ht
  refine PySem.W.method_cls I.kIn M.hg (PySem.W.cls_value I.kIn M.rd M.at_ rfl ?_)
  have I1 : Inv X pins σ H { s with toks := s.toks + 1 } := I.tok _
  refine PySem.W.callWith_K (first := []) (h₀ := X.base) I.ok.mod.kin M.kp (thn (ha pos pins _ σ H _ I1 h) fun us s2 ⟨vs, H2, I2, r, q2⟩ => ⟨I2.kIn, ?_⟩) hst hpl
  exact run_fn D.ok (hr.mono hjk) D.b .nil passN I2 r q2
end
section
variable {X : Cx} {C f : Addr} {fd : FuncData} {ps : List Str} {sp : Sp} {x : Str} {p pos : Pos} {j k : Nat}
theorem pmake0 (M : Mk X.K C f) (hm : X.mg x = some (.ref C)) (D : MDef X.prog X.w X.K X.mg X.base ps j sp f fd) (hr : Room k X.A) (hjk : j + 1 ≤ k := by decide) (hg : Gl X x := by rfl) (hdb : (x == ("__debug__" : Str)) = false := by decide) :
    PE X (.Call (.Name x p) [] [] pos) (tMake C sp [] E0 tNil) := pe_make0 M D.ok (hr.mono hjk) hg hm D.b .nil passN hdb
end
end L2
namespace L2
open PySem
noncomputable def below (N : Nat) (sp : Nat → Sp) : Sp := fun vs H Q E => ∃ m, m < N ∧ sp m vs H Q E
end L2
set_option Elab.async false
set_option linter.all false
set_option maxRecDepth 100000
set_option maxHeartbeats 4000000
namespace L2
open PySem PySem.Spec PyProof.Rows
inductive EqD (K : PySem.W.Frag) (H : Hp) : Nat → V → V → Bool → Prop
  | flat {n : Nat} {x y : V} (fx : flatV x = true) (fy : flatV y = true) : EqD K H n x y (eqV x y)
  | same {n : Nat} {a : Addr} : EqD K H n (.ref a) (.ref a) true
  | lst {n : Nat} {a b : Addr} {xs ys : List V} {e : Nat → Bool} (ne : a ≠ b) (ha : SqL K H a xs) (hb : SqL K H b ys) (hl : xs.length = ys.length)
      (hi : ∀ j x y, xs[j]? = some x → ys[j]? = some y → EqD K H n x y (e j)) : EqD K H (n + 1) (.ref a) (.ref b) ((List.range xs.length).all e)
  | lstN {n : Nat} {a b : Addr} {xs ys : List V} (ne : a ≠ b) (ha : SqL K H a xs) (hb : SqL K H b ys) (hl : xs.length ≠ ys.length) : EqD K H (n + 1) (.ref a) (.ref b) false
  | tup {n : Nat} {a b : Addr} {xs ys : List V} {e : Nat → Bool} (ne : a ≠ b) (ha : SqT K H a xs) (hb : SqT K H b ys)
      (hi : ∀ j x y, xs[j]? = some x → ys[j]? = some y → EqD K H n x y (e j)) : EqD K H (n + 1) (.ref a) (.ref b) ((List.range (min xs.length ys.length)).all e && xs.length == ys.length)
section
variable {X : Cx} {pins : List (Addr × Obj)} {σ : St} {H : Hp} {s : Shared}
theorem at_get {xs : List V} {us : List Value} (r : Vals xs us) {j : Nat} (h : j < us.toArray.size) : ∃ x, xs[j]? = some x ∧ RelV x us.toArray[j] := by
  have h' : j < us.length := by simpa using h
  have hx : j < xs.length := by rw [r.length]; exact h'
  obtain ⟨u, eu, ru⟩ := r.get (List.getElem?_eq_getElem hx)
  rw [List.getElem?_eq_getElem h'] at eu
  exact ⟨_, List.getElem?_eq_getElem hx, by
    have : us.toArray[j] = u := by simpa using eu
    rw [this]; exact ru⟩
theorem EqD.at_ {n : Nat} {x y : V} {b : Bool} (d : EqD X.K H n x y b) : ∀ {A : Around} {u v : Value}, A.units + n < cLine → Inv X pins σ H s → RelV x u → RelV y v → SeqAt.EqAt A s u v b := by
  induction d with
  | flat fx fy => intro A u v _ I ru rv; exact eqAt_V ru rv fx fy
  | same =>
    intro A u v _ I ru rv
    cases (show u = Value.ref _ from ru)
    cases (show v = Value.ref _ from rv)
    exact SeqAt.EqAt.same _
  | @lst n a b xs ys e ne ha hb hl hi ih =>
    intro A u v hu I ru rv
    cases (show u = Value.ref _ from ru)
    cases (show v = Value.ref _ from rv)
    obtain ⟨us, r, pl, _⟩ := I.list ha
    obtain ⟨vs, r', pl', _⟩ := I.list hb
    have l1 := r.length
    have l2 := r'.length
    have z := SeqAt.RcAt.lists (A := A) (e := e) pl.isList pl'.isList (by simp; omega) (by omega) fun j h1 h2 => by
      obtain ⟨x, ex, rx⟩ := at_get r h1
      obtain ⟨y, ey, ry⟩ := at_get r' h2
      exact ih j x y ex ey (A := A.in1) (by show A.units + 1 + n < cLine; omega) I rx ry
    rw [show us.toArray.size = xs.length by simp; omega] at z
    exact .of_refs ne z
  | @lstN n a b xs ys ne ha hb hl =>
    intro A u v hu I ru rv
    cases (show u = Value.ref _ from ru)
    cases (show v = Value.ref _ from rv)
    obtain ⟨us, r, pl, _⟩ := I.list ha
    obtain ⟨vs, r', pl', _⟩ := I.list hb
    have l1 := r.length
    have l2 := r'.length
    exact .of_refs ne (SeqAt.RcAt.lists_lengths pl.isList pl'.isList (by simp; omega) (by omega))
  | @tup n a b xs ys e ne ha hb hi ih =>
    intro A u v hu I ru rv
    cases (show u = Value.ref _ from ru)
    cases (show v = Value.ref _ from rv)
    obtain ⟨us, r, pl, _⟩ := I.tuple ha
    obtain ⟨vs, r', pl', _⟩ := I.tuple hb
    have l1 := r.length
    have l2 := r'.length
    have z := SeqAt.RcAt.tuples (A := A) (e := e) pl pl' (by omega) fun j h1 h2 => by
      obtain ⟨x, ex, rx⟩ := at_get r h1
      obtain ⟨y, ey, ry⟩ := at_get r' h2
      exact ih j x y ex ey (A := A.in1) (by show A.units + 1 + n < cLine; omega) I rx ry
    rw [show us.toArray.size = xs.length by simp; omega, show vs.toArray.size = ys.length by simp; omega] at z
    exact .of_refs ne z
noncomputable def rEqD (K : PySem.W.Frag) (neg : Bool) : R2 := fun x y H Q => ∃ n b, n ≤ 100 ∧ EqD K H n x y b ∧ (∃ a c, x = .ref a ∧ y = .ref c ∧ a ≠ c) ∧ Q (.bl (if neg then !b else b)) H
theorem op_eqD (hu : X.A.units + 100 < cLine) : OpR X (compareOp .Eq) (rEqD X.K false) := by
  intro pins s σ H x y u v Q I ru rv h
  obtain ⟨n, b, hn, d, ⟨a, c, rfl, rfl, hne⟩, q⟩ := h
  cases (show u = Value.ref _ from ru)
  cases (show v = Value.ref _ from rv)
  cases d with
  | flat fx _ => cases fx
  | same => exact absurd rfl hne
  | @lst n _ _ xs ys e ne ha hb hl hi =>
    obtain ⟨us, r, pl, _⟩ := I.list ha
    obtain ⟨vs, r', pl', _⟩ := I.list hb
    have l1 := r.length
    have l2 := r'.length
    refine SeqAt.eq_listAt (e := e) pl.isList pl'.isList (by simp; omega) (by omega) (fun j h1 h2 => ?_) ⟨.bl _, H, I, rfl, ?_⟩
    · obtain ⟨x, ex, rx⟩ := at_get r h1
      obtain ⟨y, ey, ry⟩ := at_get r' h2
      exact (hi j x y ex ey).at_ (A := X.A.in1) (by show X.A.units + 1 + n < cLine; omega) I rx ry
    · rw [show us.toArray.size = xs.length by simp; omega]; exact q
  | @lstN n _ _ xs ys ne ha hb hl =>
    obtain ⟨us, r, pl, _⟩ := I.list ha
    obtain ⟨vs, r', pl', _⟩ := I.list hb
    have l1 := r.length
    have l2 := r'.length
    exact SeqAt.eq_list_lengthsAt pl.isList pl'.isList (by simp; omega) (by omega) ⟨.bl false, H, I, rfl, q⟩
  | @tup n _ _ xs ys e ne ha hb hi =>
    obtain ⟨us, r, pl, _⟩ := I.tuple ha
    obtain ⟨vs, r', pl', _⟩ := I.tuple hb
    have l1 := r.length
    have l2 := r'.length
    refine SeqAt.eq_tupleAt (e := e) pl pl' (by omega) (fun j h1 h2 => ?_) ⟨.bl _, H, I, rfl, ?_⟩
    · obtain ⟨x, ex, rx⟩ := at_get r h1
      obtain ⟨y, ey, ry⟩ := at_get r' h2
      exact (hi j x y ex ey).at_ (A := X.A.in1) (by show X.A.units + 1 + n < cLine; omega) I rx ry
    · rw [show us.toArray.size = xs.length by simp; omega, show vs.toArray.size = ys.length by simp; omega]; exact q
theorem op_neD (hu : X.A.units + 100 < cLine) : OpR X (compareOp .NotEq) (rEqD X.K true) := by
  intro pins s σ H x y u v Q I ru rv h
  obtain ⟨n, b, hn, d, ⟨a, c, rfl, rfl, hne⟩, q⟩ := h
  cases (show u = Value.ref _ from ru)
  cases (show v = Value.ref _ from rv)
  cases d with
  | flat fx _ => cases fx
  | same => exact absurd rfl hne
  | @lst n _ _ xs ys e ne ha hb hl hi =>
    obtain ⟨us, r, pl, _⟩ := I.list ha
    obtain ⟨vs, r', pl', _⟩ := I.list hb
    have l1 := r.length
    have l2 := r'.length
    refine SeqAt.RcNeAt.lists (e := e) pl.isList pl'.isList (by simp; omega) (by omega) (fun j h1 h2 => ?_) _ _ _ _ ⟨.bl _, H, I, rfl, ?_⟩
    · obtain ⟨x, ex, rx⟩ := at_get r h1
      obtain ⟨y, ey, ry⟩ := at_get r' h2
      exact (hi j x y ex ey).at_ (A := X.A.in1) (by show X.A.units + 1 + n < cLine; omega) I rx ry
    · rw [show us.toArray.size = xs.length by simp; omega]; exact q
  | @lstN n _ _ xs ys ne ha hb hl =>
    obtain ⟨us, r, pl, _⟩ := I.list ha
    obtain ⟨vs, r', pl', _⟩ := I.list hb
    have l1 := r.length
    have l2 := r'.length
    exact SeqAt.RcNeAt.lists_lengths pl.isList pl'.isList (by simp; omega) (by omega) _ _ _ _ ⟨.bl true, H, I, rfl, q⟩
  | @tup n _ _ xs ys e ne ha hb hi =>
    obtain ⟨us, r, pl, _⟩ := I.tuple ha
    obtain ⟨vs, r', pl', _⟩ := I.tuple hb
    have l1 := r.length
    have l2 := r'.length
    refine SeqAt.RcNeAt.tuples (e := e) pl pl' (by omega) (fun j h1 h2 => ?_) _ _ _ _ ⟨.bl _, H, I, rfl, ?_⟩
    · obtain ⟨x, ex, rx⟩ := at_get r h1
      obtain ⟨y, ey, ry⟩ := at_get r' h2
      exact (hi j x y ex ey).at_ (A := X.A.in1) (by show X.A.units + 1 + n < cLine; omega) I rx ry
    · rw [show us.toArray.size = xs.length by simp; omega, show vs.toArray.size = ys.length by simp; omega]; exact q
theorem hu100 {A : Around} {k : Nat} (hr : Room k A) : A.units + 100 < cLine := Nat.lt_of_le_of_lt (by omega) hr.un
theorem plain_bool {x : V} {u : Value} {c : Bool} (r : RelV x u) : plainIs u (.bool c) = true ∧ (u == Value.bool c) = decide (x = .bl c) := by
  cases x with
  | non => cases r; exact ⟨rfl, rfl⟩
  | bl b =>
    cases r
    refine ⟨rfl, ?_⟩
    by_cases e : b = c
    · subst e; simp
    · rw [decide_eq_false (fun z => e (by injection z))]
      exact beq_eq_false_iff_ne.mpr fun z => e (by injection z)
  | int i => obtain ⟨t, rfl⟩ := r; exact ⟨rfl, rfl⟩
  | str i => obtain ⟨t, rfl⟩ := r; exact ⟨rfl, rfl⟩
  | byt i => obtain ⟨t, rfl⟩ := r; exact ⟨rfl, rfl⟩
  | flt i => obtain ⟨t, rfl⟩ := r; exact ⟨rfl, rfl⟩
  | ref a => cases r; exact ⟨rfl, rfl⟩
  | ty n => cases r; exact ⟨rfl, rfl⟩
theorem op_isB : OpR X (compareOp .Is) (fun x y H Q => ∃ c, y = .bl c ∧ Q (.bl (decide (x = .bl c))) H) := by
  intro pins s σ H x y u v Q I ru rv h
  obtain ⟨c, rfl, q⟩ := h
  cases (show v = Value.bool c from rv)
  obtain ⟨p, e⟩ := plain_bool (c := c) ru
  refine wpAny_bind (wpAny_isSame_plain p (wpAny_pure ⟨.bl _, H, I, rfl, ?_⟩))
  rw [e]; exact q
theorem op_notB : OpR X (compareOp .IsNot) (fun x y H Q => ∃ c, y = .bl c ∧ Q (.bl (!decide (x = .bl c))) H) := by
  intro pins s σ H x y u v Q I ru rv h
  obtain ⟨c, rfl, q⟩ := h
  cases (show v = Value.bool c from rv)
  obtain ⟨p, e⟩ := plain_bool (c := c) ru
  refine wpAny_bind (wpAny_isSame_plain p (wpAny_pure ⟨.bl _, H, I, rfl, ?_⟩))
  rw [e]; exact q
end
end L2
set_option Elab.async false
set_option linter.all false
set_option maxRecDepth 100000
set_option maxHeartbeats 4000000
namespace L2
open PySem PySem.Spec PyProof.Rows
noncomputable def insK (n : Nat) (i : Int) : Nat := if i < 0 then (i + (n : Int)).toNat else min i.toNat n
noncomputable def insAt (xs : List V) (i : Int) (y : V) : List V := xs.take (insK xs.length i) ++ y :: xs.drop (insK xs.length i)
section
variable {X : Cx}
noncomputable def rInsert : V → List V → Hp → VK → Prop := fun x vs H Q => ∃ l xs i y, x = .ref l ∧ vs = [.int i, y] ∧ H l = some (.lst xs) ∧ -(2 ^ 63) ≤ i ∧ i < 2 ^ 63 ∧ xs.length < sizeLine ∧ Q .non (upd H l (.lst (insAt xs i y)))
theorem mt_insert : MtM X "list.insert" rInsert := by
  intro pins s σ H x vs v us Q I rx rv h
  obtain ⟨l, xs, i, y, rfl, rfl, hH, h1, h2, hz, q⟩ := h
  cases rx
  obtain ⟨u, w, rfl, ⟨t, rfl⟩, rw'⟩ := vals2 rv
  obtain ⟨z, its, n, r, hl, e⟩ := I.lstM hH
  have fit : ¬ (!Builtin.List.listFitsIndex i) = true := by rw [fitsIndex_both h1 h2]; decide
  refine call_meets F.slot_list_insert ⟨_, e, rfl⟩ F.entry_list_insert (F.args_list_insert_3 _ _ _) (AutoSeq1.list_insert_list_int_val_1 l its.toArray n i t w fit (by rw [List.size_toArray]; omega)) ⟨e, ?_⟩
  refine ⟨.non, _, I.lset (its' := its.take (insK its.length i) ++ w :: its.drop (insK its.length i)) (ys := insAt xs i y) hH e ?_ ?_ ?_, rfl, q⟩
  · show (its.toArray.extract 0 (insK its.toArray.size i)).push w ++ its.toArray.extract (insK its.toArray.size i) = _
    rw [List.size_toArray]
    apply Array.toList_inj.mp
    simp
    exact List.take_of_length_le (by rw [List.length_drop]; exact Nat.le_refl _)
  · unfold insAt
    rw [hl]
    exact (Vals.take _ r).append (.cons rw' (Vals.drop _ r))
  · unfold insAt
    rw [List.length_append, List.length_cons, List.length_take, List.length_drop]
    omega
end
section
variable {X : Cx} {pins : List (Addr × Obj)} {σ : St} {H : Hp} {s : Shared} {h' : Heap}
end
section
variable {X : Cx}
end
end L2
set_option Elab.async false
set_option linter.all false
set_option maxRecDepth 100000
set_option maxHeartbeats 4000000
namespace Ck
open PySem L2
inductive Tree where
  | int (i : Int)
  | lst (l : List Tree)
  | tup (l : List Tree)
mutual
noncomputable def Rep (H : Hp) : Tree → V → Prop
  | .int i, v => v = .int i
  | .lst ts, v => ∃ a xs, v = .ref a ∧ H a = some (.lst xs) ∧ ts.length ≤ 1000000 ∧ RepL H ts xs
  | .tup ts, v => ∃ a xs, v = .ref a ∧ H a = some (.tup xs) ∧ ts.length ≤ 1000000 ∧ RepL H ts xs
noncomputable def RepL (H : Hp) : List Tree → List V → Prop
  | [], xs => xs = []
  | t :: ts, xs => ∃ v vs, xs = v :: vs ∧ Rep H t v ∧ RepL H ts vs
end
mutual
noncomputable def dep : Tree → Nat
  | .int _ => 0
  | .lst ts => depL ts + 1
  | .tup ts => depL ts + 1
noncomputable def depL : List Tree → Nat
  | [] => 0
  | t :: ts => max (dep t) (depL ts)
end
mutual
theorem Rep.same {H H' : Hp} (s : Same H H') : ∀ (t : Tree) {v : V}, Rep H t v → Rep H' t v
  | .int i, v, h => by unfold Rep at h ⊢; exact h
  | .lst ts, v, h => by
    unfold Rep at h ⊢
    obtain ⟨a, xs, e, ha, hl, r⟩ := h
    exact ⟨a, xs, e, s _ _ ha, hl, RepL.same s ts r⟩
  | .tup ts, v, h => by
    unfold Rep at h ⊢
    obtain ⟨a, xs, e, ha, hl, r⟩ := h
    exact ⟨a, xs, e, s _ _ ha, hl, RepL.same s ts r⟩
theorem RepL.same {H H' : Hp} (s : Same H H') : ∀ (ts : List Tree) {xs : List V}, RepL H ts xs → RepL H' ts xs
  | [], xs, h => by unfold RepL at h ⊢; exact h
  | t :: ts, xs, h => by
    unfold RepL at h ⊢
    obtain ⟨v, vs, e, r, rs⟩ := h
    exact ⟨v, vs, e, Rep.same s t r, RepL.same s ts rs⟩
end
noncomputable abbrev Pair := Int × Int
noncomputable def Prs (H : Hp) (xs : List V) (ps : List Pair) : Prop := Paired (fun (v : V) (p : Pair) => ∃ t, v = .ref t ∧ H t = some (.tup [.int p.1, .int p.2])) xs ps
theorem Prs.same {H H' : Hp} {xs : List V} {ps : List Pair} (h : Prs H xs ps) (s : Same H H') : Prs H' xs ps := Paired.mapP h fun v p ⟨t, e, q⟩ => ⟨t, e, s _ _ q⟩
theorem Prs.length {H : Hp} {xs : List V} {ps : List Pair} (h : Prs H xs ps) : xs.length = ps.length := Paired.length h
theorem Prs.get {H : Hp} : ∀ {xs : List V} {ps : List Pair}, Prs H xs ps → ∀ {i : Nat} {x : V}, xs[i]? = some x → ∃ p t, ps[i]? = some p ∧ x = .ref t ∧ H t = some (.tup [.int p.1, .int p.2])
  | _, _, .nil, i, x, e => by cases e
  | _, _, .cons r t, 0, x, e => by
    obtain ⟨a, e1, e2⟩ := r
    rw [List.getElem?_cons_zero] at e
    cases e
    exact ⟨_, a, rfl, e1, e2⟩
  | _, _, .cons r t, i + 1, x, e => by
    obtain ⟨p, a, h1, h2, h3⟩ := Prs.get t (i := i) (by simpa using e)
    exact ⟨p, a, by simpa using h1, h2, h3⟩
theorem Prs.snoc {H : Hp} : ∀ {xs : List V} {ps : List Pair} {t : Addr} {p : Pair}, Prs H xs ps → H t = some (.tup [.int p.1, .int p.2]) → Prs H (xs ++ [.ref t]) (ps ++ [p])
  | _, _, t, p, .nil, h => .cons ⟨t, rfl, h⟩ .nil
  | _, _, t, p, .cons r s, h => .cons r (Prs.snoc s h)
theorem Prs.set {H : Hp} {t : Addr} {p : Pair} (h : H t = some (.tup [.int p.1, .int p.2])) : ∀ {xs : List V} {ps : List Pair} (i : Nat), Prs H xs ps → Prs H (xs.set i (.ref t)) (ps.set i p)
  | _, _, _, .nil => .nil
  | _, _, 0, .cons _ s => .cons ⟨t, rfl, h⟩ s
  | _, _, i + 1, .cons r s => .cons r (Prs.set h i s)
theorem Prs.updL {H : Hp} {xs : List V} {ps : List Pair} {a : Addr} {l : List V} (h : Prs H xs ps) (ha : H a = some (.lst l)) (o : HO) : Prs (upd H a o) xs ps :=
  Paired.mapP h fun v p ⟨t, e, q⟩ => ⟨t, e, (upd_ne (ne_of q ha (by intro z; cases z))).trans q⟩
theorem Prs.updN {H : Hp} {xs : List V} {ps : List Pair} {a : Addr} (h : Prs H xs ps) (ha : H a = none) (o : HO) : Prs (upd H a o) xs ps :=
  Paired.mapP h fun v p ⟨t, e, q⟩ => ⟨t, e, (upd_ne (ne_of_none q ha)).trans q⟩
noncomputable def PLs (H : Hp) (a : Addr) (ps : List Pair) : Prop := ∃ xs, H a = some (.lst xs) ∧ Prs H xs ps
theorem PLs.same {H H' : Hp} {a : Addr} {ps : List Pair} (h : PLs H a ps) (s : Same H H') : PLs H' a ps := let ⟨xs, e, r⟩ := h; ⟨xs, s _ _ e, r.same s⟩
theorem PLs.updL {H : Hp} {a b : Addr} {ps : List Pair} {l : List V} (h : PLs H a ps) (hb : H b = some (.lst l)) (ne : a ≠ b) (o : HO) : PLs (upd H b o) a ps :=
  let ⟨xs, e, r⟩ := h
  ⟨xs, (upd_ne ne).trans e, r.updL hb o⟩
theorem PLs.len {H : Hp} {a : Addr} {ps : List Pair} (h : PLs H a ps) : ∃ xs, H a = some (.lst xs) ∧ xs.length = ps.length ∧ Prs H xs ps := let ⟨xs, e, r⟩ := h; ⟨xs, e, r.length, r⟩
end Ck
namespace L2
open PySem
end L2
set_option Elab.async false
set_option linter.all false
set_option maxRecDepth 100000
set_option maxHeartbeats 4000000
namespace Ck
open PySem L2
theorem cutV_from (xs : List V) (k : Nat) : cutV xs (some (k : Int)) none = xs.drop k := by
  unfold cutV
  rw [HT.sIx_nat, HT.sIx_none]
  rw [List.take_of_length_le (by rw [List.length_drop]; omega)]
  by_cases h : k ≤ xs.length
  · rw [show min k xs.length = k by omega]
  · rw [List.drop_eq_nil_of_le (show xs.length ≤ k by omega), List.drop_eq_nil_of_le (by omega)]
theorem cutV_to (xs : List V) (k : Nat) : cutV xs none (some (k : Int)) = xs.take k := by
  unfold cutV
  rw [HT.sIx_nat, HT.sIx_none, List.drop_zero, Nat.sub_zero]
  by_cases h : k ≤ xs.length
  · rw [show min k xs.length = k by omega]
  · rw [List.take_of_length_le (by omega), List.take_of_length_le (by omega)]
theorem iteNN {c A B : Prop} [Decidable c] (hc : ¬ c) (h : A) : if (!decide c) = true then A else B := by
  rw [decide_eq_false hc]
  exact iteT h
end Ck
set_option Elab.async false
set_option linter.all false
set_option maxRecDepth 100000
set_option maxHeartbeats 4000000
namespace L2
open PySem PySem.Spec PyProof.Rows PySem.SeqAt
section
variable {X : Cx}
theorem pg_tupK {K : PySem.W.Frag} {es : List Expr} {k : Nat} {t : TGs} {n : Nat} {pos : Pos} (hK : X.K = K) (hc : X.calm = true) (h : PGs X es t)
    (hn : (assignEach es X.env).length = n := by rfl) (hst : (assignEach es X.env).findIdx? (·.1) = none := by rfl) : PG X (.Tuple es k pos) (gTup K n t) := by
  subst hK
  exact pg_tup hc h hn hst
theorem comp_walk {K : PySem.W.Frag} {a : Addr} {xs : List V} {g : TG} {tt : TT} {te : TE} {σ0 : St} {H : Hp} {D : Addr} {Q : VK} (Pv : Nat → List V → Hp → Prop) (hz : xs.length ≤ sizeLine)
    (h0 : Pv 0 [] (upd H D (.lst []))) (hl : ∀ i ys H', i ≤ xs.length → Pv i ys H' → SqL K H' a xs ∧ ys.length ≤ i)
    (hs : ∀ (i : Nat) (x : V) (ys : List V) (H' : Hp) (R : VK) (R0 : Hp → Prop), xs[i]? = some x → Pv i ys H' → (∀ v H3, H3 D = some (.lst ys) → Pv (i + 1) (ys ++ [v]) (upd H3 D (.lst (ys ++ [v]))) → R v H3) → (∀ H3, Pv (i + 1) ys H3 → R0 H3) →
      g x σ0 H' fun σ2 H2 => Ext σ0 σ2 ∧ tt σ2 H2 fun b H3 => if b = true then te σ2 H3 R else R0 H3)
    (hq : ∀ ys H', Pv xs.length ys H' → Q (.ref D) H') :
    CompW (Itl K a) g tt te σ0 D Q H := by
  refine ⟨fun i m ys H' => m = xs.length - i ∧ i ≤ xs.length ∧ Pv i ys H', ⟨xs.length, by simp, Nat.zero_le _, h0⟩, ?_⟩
  rintro i m ys H' ⟨rfl, hi, p⟩
  obtain ⟨sq, ly⟩ := hl i ys H' hi p
  by_cases hlt : i < xs.length
  · refine .inr ⟨⟨xs, xs[i], sq, by simp [hlt]⟩, fun x H'' y => ?_⟩
    obtain ⟨e, y⟩ := y
    subst e
    have ex := y xs sq
    refine hs i x ys _ _ _ ex p (fun v H3 hD p' => ⟨hD, by omega, xs.length - (i + 1), by omega, rfl, hlt, p'⟩) fun H3 p' => ⟨xs.length - (i + 1), by omega, rfl, hlt, p'⟩
  · have e : i = xs.length := by omega
    subst e
    exact .inl ⟨⟨xs, sq, Nat.le_refl _⟩, hq ys H' p⟩
end
end L2
namespace Ck
open PySem L2
end Ck
namespace Ck
open PySem L2
structure Flds (fs : List (Str × V)) (w : Str) (l : Int) : Prop where
  word : fs.lookup ("word" : Str) = some (.str w)
  least : fs.lookup ("least" : Str) = some (.int l)
  no : ∀ m : Str, m ≠ ("word" : Str) → m ≠ ("least" : Str) → fs.lookup m = none
theorem flds_mk (w : Str) (l : Int) : Flds (putF ("least" : Str) (.int l) (putF ("word" : Str) (.str w) [])) w l :=
  ⟨by rw [lookup_putF, if_neg (by decide), lookup_putF, if_pos rfl], by rw [lookup_putF, if_pos rfl], fun m a b => by rw [lookup_putF, if_neg b, lookup_putF, if_neg a]; rfl⟩
noncomputable def up (d : Int) (p : Pair) : Pair := (p.1 + d, p.2 + d)
theorem Prs.take {H : Hp} : ∀ (k : Nat) {xs : List V} {ps : List Pair}, Prs H xs ps → Prs H (xs.take k) (ps.take k)
  | 0, _, _, _ => .nil
  | k + 1, _, _, .nil => .nil
  | k + 1, _, _, .cons r t => .cons r (Prs.take k t)
theorem Prs.drop {H : Hp} : ∀ (k : Nat) {xs : List V} {ps : List Pair}, Prs H xs ps → Prs H (xs.drop k) (ps.drop k)
  | 0, _, _, h => h
  | k + 1, _, _, .nil => .nil
  | k + 1, _, _, .cons r t => Prs.drop k t
theorem Prs.app {H : Hp} : ∀ {xs ys : List V} {ps qs : List Pair}, Prs H xs ps → Prs H ys qs → Prs H (xs ++ ys) (ps ++ qs)
  | _, _, _, _, .nil, h => h
  | _, _, _, _, .cons r t, h => .cons r (Prs.app t h)
end Ck
namespace Ck
open PySem L2
end Ck
namespace Ck
open PySem L2
end Ck
set_option Elab.async false
set_option linter.all false
set_option maxRecDepth 100000
set_option maxHeartbeats 4000000
namespace Ck
open PySem L2
inductive St : List Int → Int → Prop
  | nil : St [] 0
  | snoc {rs : List Int} {a n : Int} : St rs a → a ≤ n → n ≤ (rs.length : Int) → St (rs ++ [n]) n
end Ck
set_option Elab.async false
set_option linter.all false
set_option maxRecDepth 100000
set_option maxHeartbeats 4000000
namespace Ck
open PySem L2
end Ck
namespace Ck
open PySem L2
end Ck
set_option Elab.async false
set_option linter.all false
set_option maxRecDepth 100000
set_option maxHeartbeats 4000000
namespace L2
open PySem PySem.Spec PyProof.Rows
theorem bb_sorted : bootBuiltins "sorted" = some (.builtin "sorted") := by decide +kernel
theorem bb_all : bootBuiltins "all" = some (.builtin "all") := by decide +kernel
section
variable {X : Cx}
theorem vals_bools {bs : List Bool} : ∀ {us : List Value}, Vals (bs.map V.bl) us → us = bs.map Value.bool := by
  induction bs with
  | nil => intro us r; rw [List.map_nil] at r; cases r; rfl
  | cons b bs ih =>
    intro us r
    rw [List.map_cons] at r
    cases r with
    | cons h t => rw [ih t, List.map_cons]; cases (show _ = Value.bool b from h); rfl
theorem all_range (bs : List Bool) : (List.range bs.length).all (fun i => bs.getD i false) = bs.all id := by
  induction bs with
  | nil => rfl
  | cons b bs ih =>
    rw [List.length_cons, List.range_succ_eq_map, List.all_cons, List.all_map, List.all_cons]
    have : ((fun i => (b :: bs).getD i false) ∘ Nat.succ) = fun i => bs.getD i false := by funext i; rfl
    rw [this, ih]
    rfl
theorem call_all (hc : X.calm = true) : CallR X (.builtin "all") (fun xs H Q => ∃ (p : Addr) (bs : List Bool), xs = [.ref p] ∧ SqL X.K H p (bs.map V.bl) ∧ Q (.bl (bs.all id)) H) := by
  intro pins s σ H xs us Q I r h
  obtain ⟨p, bs, rfl, hl, q⟩ := h
  obtain ⟨u, rfl, ru⟩ := vals1 r
  cases ru
  obtain ⟨its, r', pl, hz⟩ := I.list hl
  have ei := vals_bools r'
  have hlt : p < s.heap.objs.size := by obtain ⟨_, e, _⟩ := pl.isList; exact Heap.lt_size e
  refine call_all_walk (wpAny_pyIter_list pl.isList ⟨_, _, _, _, _, _, fun i => bs.getD i false, rfl, Walks.list (A := X.A.in1) (I.ok.hd hc) _ p (Nat.ne_of_lt hlt) its.toArray, ⟨⟨_, Heap.get?_push_size _ rfl, rfl, rfl⟩, pl.isList.push _⟩, ?_, fun h' tk hk => ⟨.bl _, H, I.kept (old_kept hk), rfl, ?_⟩⟩)
  · intro i v s' Q' E' hP hQ
    have hb : bs[i]? = some (bs.getD i false) ∧ v = .bool (bs.getD i false) := by
      have hP' : its[i]? = some v := by simpa using hP
      rw [ei, List.getElem?_map] at hP'
      cases hb : bs[i]? with
      | none => rw [hb] at hP'; cases hP'
      | some b =>
        rw [hb] at hP'
        have e1 : bs.getD i false = b := by rw [List.getD_eq_getElem?_getD, hb]; rfl
        rw [e1]
        exact ⟨rfl, (Option.some.inj hP').symm⟩
    rw [hb.2]
    exact wpAny_truthy_bool hQ
  · have e1 : its.toArray.size = bs.length := by rw [ei]; simp
    rw [e1, all_range]
    exact q
end
end L2
namespace Ck
open PySem L2
end Ck
set_option Elab.async false
set_option linter.all false
set_option maxRecDepth 100000
set_option maxHeartbeats 4000000
namespace L2
open PySem PySem.Spec PyProof.Rows PySem.W
noncomputable def pw {α : Type} (n : Nat) (lt : Nat → Nat → Bool) : KasT α → (α → Prop) → Prop
  | .ret a, Q => Q a
  | .ask i j k, Q => i < n ∧ j < n ∧ pw n lt (k (lt i j)) Q
theorem pw_bind {α β : Type} {n : Nat} {lt : Nat → Nat → Bool} {f : α → KasT β} {Q : β → Prop} : ∀ {t : KasT α}, pw n lt t (fun a => pw n lt (f a) Q) → pw n lt (t.bind f) Q
  | .ret _, h => h
  | .ask _ _ _, h => ⟨h.1, h.2.1, pw_bind h.2.2⟩
theorem pw_mono {α : Type} {n : Nat} {lt : Nat → Nat → Bool} {Q Q' : α → Prop} (m : ∀ a, Q a → Q' a) : ∀ {t : KasT α}, pw n lt t Q → pw n lt t Q'
  | .ret a, h => m a h
  | .ask _ _ _, h => ⟨h.1, h.2.1, pw_mono m h.2.2⟩
theorem pw_wp {α : Type} {n : Nat} {lt : Nat → Nat → Bool} {Q : α → Prop} {s : Shared} {cmp : Nat → Nat → (Bool → Shared → Prop) → Shared → Prop}
    (hc : ∀ (i j : Nat) (C : Bool → Shared → Prop), i < n → j < n → C (lt i j) s → cmp i j C s) : ∀ {t : KasT α}, pw n lt t Q → t.kasWp cmp (fun a s' => s' = s ∧ Q a) s
  | .ret _, h => ⟨rfl, h⟩
  | .ask i j k, h => hc i j (fun b s' => (k b).kasWp cmp (fun a s' => s' = s ∧ Q a) s') h.1 h.2.1 (pw_wp hc h.2.2)
structure Ordr (lt : Nat → Nat → Bool) : Prop where
  asym : ∀ a b, lt a b = true → lt b a = false
  ntr : ∀ a b c, lt b a = false → lt c b = false → lt c a = false
noncomputable abbrev gA (p : Array Nat) (k : Nat) : Nat := p.getD k 0
noncomputable def OkP (n : Nat) (p : Array Nat) : Prop := p.toList.Perm (List.range n)
theorem OkP.size {n : Nat} {p : Array Nat} (h : OkP n p) : p.size = n := by
  have := h.length_eq
  rw [List.length_range] at this
  simpa using this
theorem OkP.lt {n : Nat} {p : Array Nat} (h : OkP n p) (hn : 0 < n) (k : Nat) : gA p k < n := by
  unfold gA
  by_cases hk : k < p.size
  · have e : p.getD k 0 = p[k] := by simp [hk]
    rw [e]
    exact List.mem_range.mp (h.mem_iff.mp (Array.getElem_mem_toList hk))
  · have e : p.getD k 0 = 0 := by simp [hk]
    rw [e]; exact hn
theorem gA_mir {p : Array Nat} {i j : Nat} (hj : j ≤ p.size) (k : Nat) : gA (kas_rev p i j) k = if i ≤ k ∧ k < j then gA p (i + j - 1 - k) else gA p k := by
  unfold gA kas_rev
  rw [Array.getD_eq_getD_getElem?, getElem?_mirror_all hj k]
  split
  · rw [← Array.getD_eq_getD_getElem?]
  · rw [← Array.getD_eq_getD_getElem?]
theorem gA_bub {p : Array Nat} {src d : Nat} (hs : src < p.size) (hd : d ≤ src) (k : Nat) : gA (bubble p src d) k = if k = src - d then gA p src else if src - d < k ∧ k ≤ src then gA p (k - 1) else gA p k := by
  unfold gA
  rw [Array.getD_eq_getD_getElem?, getElem?_bubble hs d hd k]
  split
  · simp [hs]
  · split
    · rw [← Array.getD_eq_getD_getElem?]
    · rw [← Array.getD_eq_getD_getElem?]
theorem OkP.rev {n : Nat} {p : Array Nat} (h : OkP n p) (i j : Nat) : OkP n (kas_rev p i j) := (Array.perm_iff_toList_perm.mp (mirror_perm p i j _)).trans h
theorem OkP.bub {n : Nat} {p : Array Nat} (h : OkP n p) (i j : Nat) : OkP n (bubble p i j) := (Array.perm_iff_toList_perm.mp (bubble_perm p i j)).trans h
section
variable {n : Nat} {lt : Nat → Nat → Bool} (O : Ordr lt)
noncomputable def Ris (lt : Nat → Nat → Bool) (p : Array Nat) (k : Nat) : Prop := ∀ i j, i ≤ j → j < k → lt (gA p j) (gA p i) = false
noncomputable def Fal (lt : Nat → Nat → Bool) (p : Array Nat) (k : Nat) : Prop := ∀ i j, i ≤ j → j < k → lt (gA p i) (gA p j) = false
noncomputable def Alk (lt : Nat → Nat → Bool) (a b : Nat) : Prop := lt a b = false ∧ lt b a = false
include O
theorem Ordr.irr (a : Nat) : lt a a = false := by
  cases h : lt a a with
  | false => rfl
  | true => exact h.symm.trans (O.asym a a h)
theorem Ordr.alk (a : Nat) : Alk lt a a := ⟨O.irr a, O.irr a⟩
theorem Ordr.alkT {a b c : Nat} (x : Alk lt a b) (y : Alk lt b c) : Alk lt a c := ⟨O.ntr c b a y.1 x.1, O.ntr a b c x.2 y.2⟩
theorem Ordr.up {a b c : Nat} (x : lt a b = true) (y : lt c b = false) : lt a c = true := by
  cases h : lt a c with
  | true => rfl
  | false => exact (x.symm.trans (O.ntr b c a y h)).symm ▸ rfl
theorem Ris.one (p : Array Nat) : Ris lt p 1 := fun i j h1 h2 => by
  have e : i = j := by omega
  subst e
  exact O.irr _
theorem Fal.one (p : Array Nat) : Fal lt p 1 := fun i j h1 h2 => by
  have e : i = j := by omega
  subst e
  exact O.irr _
theorem Ris.snoc {p : Array Nat} {m : Nat} (h1 : 1 ≤ m) (h : Ris lt p m) (c : lt (gA p m) (gA p (m - 1)) = false) : Ris lt p (m + 1) := fun i j ij jm => by
  by_cases hj : j < m
  · exact h i j ij hj
  · have e : j = m := by omega
    subst e
    by_cases hi : i = j
    · subst hi; exact O.irr _
    · exact O.ntr _ _ _ (h i (j - 1) (by omega) (by omega)) c
theorem Fal.snoc {p : Array Nat} {m : Nat} (h1 : 1 ≤ m) (h : Fal lt p m) (c : lt (gA p (m - 1)) (gA p m) = false) : Fal lt p (m + 1) := fun i j ij jm => by
  by_cases hj : j < m
  · exact h i j ij hj
  · have e : j = m := by omega
    subst e
    by_cases hi : i = j
    · subst hi; exact O.irr _
    · exact O.ntr _ _ _ c (h i (j - 1) (by omega) (by omega))
theorem Fal.alk {p p' : Array Nat} {m : Nat} (h : Fal lt p m) (e : ∀ k, k < m → Alk lt (gA p' k) (gA p k)) : Fal lt p' m := fun i j ij jm =>
  O.ntr _ _ _ (e j jm).2 (O.ntr _ _ _ (h i j ij jm) (e i (by omega)).1)
theorem pw_asc {p : Array Nat} (hp : OkP n p) {N : Nat} (hN : N ≤ n) : ∀ (f m : Nat), 1 ≤ m → m + f = N → Ris lt p m → pw n lt (kas_asc p f m) (fun r => m ≤ r ∧ r ≤ N ∧ Ris lt p r ∧ (r < N → lt (gA p r) (gA p (r - 1)) = true))
  | 0, m, h1, h2, h => ⟨Nat.le_refl _, by omega, h, fun z => absurd z (by omega)⟩
  | f + 1, m, h1, h2, h => by
    refine ⟨hp.lt (by omega) _, hp.lt (by omega) _, ?_⟩
    show pw n lt (if lt (gA p m) (gA p (m - 1)) = true then _ else _) _
    cases c : lt (gA p m) (gA p (m - 1)) with
    | true =>
      rw [if_pos rfl]
      exact ⟨Nat.le_refl _, by omega, h, fun _ => c⟩
    | false =>
      rw [if_neg (by decide)]
      exact pw_mono (fun r hr => ⟨by omega, hr.2⟩) (pw_asc hp hN f (m + 1) (by omega) (by omega) (h.snoc O h1 c))
theorem pw_desc {N : Nat} (hN : N ≤ n) : ∀ (f : Nat) (p : Array Nat) (m q : Nat), OkP n p → q + 1 ≤ m → m + f = N → Fal lt p m → (∀ i, m - 1 - q ≤ i → i < m → Alk lt (gA p i) (gA p (m - 1))) →
    pw n lt (kas_desc f p m q) (fun r => OkP n r.1 ∧ r.2.2 + 1 ≤ r.2.1 ∧ r.2.1 ≤ N ∧ Fal lt r.1 r.2.1 ∧ ∀ i, r.2.1 - 1 - r.2.2 ≤ i → i < r.2.1 → Alk lt (gA r.1 i) (gA r.1 (r.2.1 - 1)))
  | 0, p, m, q, hp, hq, h2, h, al => ⟨hp, hq, by show m ≤ N; omega, h, al⟩
  | f + 1, p, m, q, hp, hq, h2, h, al => by
    have hs := hp.size
    refine ⟨hp.lt (by omega) _, hp.lt (by omega) _, ?_⟩
    show pw n lt (if lt (gA p m) (gA p (m - 1)) = true then _ else _) _
    cases c : lt (gA p m) (gA p (m - 1)) with
    | true =>
      rw [if_pos rfl]
      by_cases q0 : q > 0
      · rw [if_pos q0]
        have e : ∀ k, gA (kas_rev p (m - (q + 1)) m) k = if m - (q + 1) ≤ k ∧ k < m then gA p (m - (q + 1) + m - 1 - k) else gA p k := fun k => gA_mir (by omega) k
        have ek : ∀ k, k < m → Alk lt (gA (kas_rev p (m - (q + 1)) m) k) (gA p k) := fun k hk => by
          rw [e k]
          split
          · have z1 := al (m - (q + 1) + m - 1 - k) (by omega) (by omega)
            have z2 := al k (by omega) hk
            exact O.alkT z1 ⟨z2.2, z2.1⟩
          · exact O.alk _
        have em : gA (kas_rev p (m - (q + 1)) m) m = gA p m := by rw [e m, if_neg (by omega)]
        refine pw_desc hN f _ (m + 1) 0 (hp.rev _ _) (by omega) (by omega) ((h.alk O ek).snoc O (by omega) ?_) (fun i i1 i2 => ?_)
        · rw [em]
          have := (ek (m - 1) (by omega)).1
          exact O.ntr _ _ _ (O.asym _ _ c) this
        · have : i = m := by omega
          subst this
          exact O.alk _
      · rw [if_neg q0]
        refine pw_desc hN f p (m + 1) 0 hp (by omega) (by omega) (h.snoc O (by omega) (O.asym _ _ c)) (fun i i1 i2 => ?_)
        have : i = m := by omega
        subst this
        exact O.alk _
    | false =>
      rw [if_neg (by decide)]
      refine ⟨hp.lt (by omega) _, hp.lt (by omega) _, ?_⟩
      show pw n lt (if lt (gA p (m - 1)) (gA p m) = true then _ else _) _
      cases d : lt (gA p (m - 1)) (gA p m) with
      | true =>
        rw [if_pos rfl]
        exact ⟨hp, hq, by show m ≤ N; omega, h, al⟩
      | false =>
        rw [if_neg (by decide)]
        refine pw_desc hN f p (m + 1) (q + 1) hp (by omega) (by omega) (h.snoc O (by omega) d) (fun i i1 i2 => ?_)
        by_cases hi : i < m
        · exact O.alkT (al i (by omega) hi) ⟨d, c⟩
        · have : i = m := by omega
          subst this
          exact O.alk _
noncomputable def Cnt (n : Nat) (lt : Nat → Nat → Bool) (N : Nat) (r : Nat × Array Nat) : Prop := OkP n r.2 ∧ Ris lt r.2 r.1 ∧ 1 ≤ r.1 ∧ r.1 ≤ N
theorem pw_tail3 {N : Nat} (hN : N ≤ n) {p : Array Nat} {m : Nat} (hp : OkP n p) (h1 : 1 ≤ m) (hm : m ≤ N) (h : Fal lt p m) : pw n lt (kas_tail3 m N p) (Cnt n lt N) := by
  have hs := hp.size
  have e : ∀ k, k < m → gA (kas_rev p 0 m) k = gA p (m - 1 - k) := fun k hk => by
    rw [gA_mir (by omega), if_pos (by omega), Nat.zero_add]
  refine pw_bind (pw_mono (fun r hr => ?_) (pw_asc O (hp.rev 0 m) hN (N - m) m h1 (by omega) (fun i j ij jm => ?_)))
  · exact ⟨hp.rev 0 m, hr.2.2.1, by show 1 ≤ r; omega, hr.2.1⟩
  · rw [e i (by omega), e j jm]
    exact h _ _ (by omega) (by omega)
theorem pw_descPart {N : Nat} (hN : N ≤ n) {p : Array Nat} {m : Nat} (hp : OkP n p) (h1 : 1 ≤ m) (hm : m + 1 ≤ N) (h : Fal lt p m) (c : lt (gA p m) (gA p (m - 1)) = true) : pw n lt (kas_descPart m N p) (Cnt n lt N) := by
  refine pw_bind (pw_mono (fun r hr => ?_) (pw_desc O hN (N - (m + 1)) p (m + 1) 0 hp (by omega) (by omega) (h.snoc O h1 (O.asym _ _ c)) (fun i i1 i2 => ?_)))
  · obtain ⟨p', m', q'⟩ := r
    obtain ⟨ok, hq, hl, fa, al⟩ := hr
    have hs := ok.size
    dsimp only at hs hq hl fa al ⊢
    by_cases q0 : q' > 0
    · rw [if_pos q0]
      refine pw_tail3 O hN (ok.rev _ _) (by omega) hl (fa.alk O fun k hk => ?_)
      rw [gA_mir (by omega)]
      split
      · have z1 := al (m' - (q' + 1) + m' - 1 - k) (by omega) (by omega)
        have z2 := al k (by omega) hk
        exact O.alkT z1 ⟨z2.2, z2.1⟩
      · exact O.alk _
    · rw [if_neg q0]
      exact pw_tail3 O hN ok (by omega) hl fa
  · have : i = m := by omega
    subst this
    exact O.alk _
theorem pw_count {N : Nat} (hN : N ≤ n) (hN1 : 1 ≤ N) {p : Array Nat} (hp : OkP n p) : pw n lt (kas_count N p) (Cnt n lt N) := by
  have hs := hp.size
  refine pw_bind (pw_mono (fun m hm => ?_) (pw_asc O hp hN (N - 1) 1 (Nat.le_refl _) (by omega) (Ris.one O p)))
  obtain ⟨m1, mN, ri, st⟩ := hm
  by_cases e : m = N
  · subst e
    rw [if_pos (by simp)]
    exact ⟨hp, ri, m1, Nat.le_refl _⟩
  · rw [if_neg (by simpa using e)]
    have c := st (by omega)
    by_cases m2 : m > 1
    · rw [if_pos m2]
      refine ⟨hp.lt (by omega) _, hp.lt (by omega) _, ?_⟩
      show pw n lt (if lt (gA p 0) (gA p (m - 1)) = true then _ else _) _
      cases d : lt (gA p 0) (gA p (m - 1)) with
      | true =>
        rw [if_pos rfl]
        exact ⟨hp, ri, m1, mN⟩
      | false =>
        rw [if_neg (by decide)]
        have al : ∀ i, i < m → Alk lt (gA p i) (gA p 0) := fun i hi => ⟨ri 0 i (by omega) hi, O.ntr _ _ _ (ri i (m - 1) (by omega) (by omega)) d⟩
        have e : ∀ k, k < m → gA (kas_rev p 0 m) k = gA p (m - 1 - k) := fun k hk => by
          rw [gA_mir (by omega), if_pos (by omega), Nat.zero_add]
        refine pw_descPart O hN (hp.rev _ _) m1 (by omega) (fun i j ij jm => ?_) ?_
        · rw [e i (by omega), e j jm]
          have z1 := al (m - 1 - i) (by omega)
          have z2 := al (m - 1 - j) (by omega)
          exact (O.alkT z1 ⟨z2.2, z2.1⟩).1
        · rw [gA_mir (by omega), if_neg (by omega), e (m - 1) (by omega), show m - 1 - (m - 1) = 0 by omega]
          exact O.up c d
    · rw [if_neg m2]
      have em : m = 1 := by omega
      subst em
      exact pw_descPart O hN hp (Nat.le_refl _) (by omega) (Fal.one O p) c
theorem pw_place {p : Array Nat} (hp : OkP n p) {k : Nat} (hk : k < n) (h : Ris lt p k) : ∀ (f l r : Nat), l ≤ r → r ≤ k → r - l ≤ f → (∀ i, i < l → lt (gA p k) (gA p i) = false) → (∀ i, r ≤ i → i < k → lt (gA p k) (gA p i) = true) →
    pw n lt (kas_place p k f l r) (fun l' => l' ≤ k ∧ (∀ i, i < l' → lt (gA p k) (gA p i) = false) ∧ ∀ i, l' ≤ i → i < k → lt (gA p k) (gA p i) = true)
  | 0, l, r, h1, h2, h3, a, b => ⟨by omega, a, fun i i1 i2 => b i (by omega) i2⟩
  | f + 1, l, r, h1, h2, h3, a, b => by
    show pw n lt (if l ≥ r then _ else _) _
    by_cases e : l ≥ r
    · rw [if_pos e]
      exact ⟨by omega, a, fun i i1 i2 => b i (by omega) i2⟩
    · rw [if_neg e]
      refine ⟨hp.lt (by omega) _, hp.lt (by omega) _, ?_⟩
      show pw n lt (if lt (gA p k) (gA p ((l + r) / 2)) = true then _ else _) _
      cases c : lt (gA p k) (gA p ((l + r) / 2)) with
      | true =>
        rw [if_pos rfl]
        exact pw_place hp hk h f l ((l + r) / 2) (by omega) (by omega) (by omega) a fun i i1 i2 => O.up c (h _ i i1 i2)
      | false =>
        rw [if_neg (by decide)]
        exact pw_place hp hk h f ((l + r) / 2 + 1) r (by omega) h2 (by omega) (fun i hi => O.ntr _ _ _ (h i ((l + r) / 2) (by omega) (by omega)) c) b
theorem pw_bin : ∀ (f : Nat) (p : Array Nat) (k : Nat), OkP n p → k + f = n → Ris lt p k → pw n lt (kas_bin f p k) (fun p' => OkP n p' ∧ Ris lt p' n)
  | 0, p, k, hp, hk, h => by
    have : k = n := by omega
    subst this
    exact ⟨hp, h⟩
  | f + 1, p, k, hp, hk, h => by
    have hs := hp.size
    refine pw_bind (pw_mono (fun l hl => ?_) (pw_place O hp (by omega) h k 0 k (by omega) (Nat.le_refl _) (by omega) (fun i hi => absurd hi (by omega)) (fun i i1 i2 => absurd i1 (by omega))))
    obtain ⟨lk, lo, hi⟩ := hl
    refine pw_bin f _ (k + 1) (hp.bub _ _) (by omega) (fun i j ij jk => ?_)
    have e := fun x => gA_bub (p := p) (src := k) (d := k - l) (by omega) (by omega) x
    rw [e i, e j, show k - (k - l) = l by omega]
    by_cases j1 : j = l
    · subst j1
      rw [if_pos rfl]
      by_cases i1 : i = j
      · rw [if_pos i1]; exact O.irr _
      · rw [if_neg i1, if_neg (by omega)]
        exact lo i (by omega)
    · rw [if_neg j1]
      by_cases j2 : l < j ∧ j ≤ k
      · rw [if_pos j2]
        by_cases i1 : i = l
        · rw [if_pos i1]
          exact O.asym _ _ (hi (j - 1) (by omega) (by omega))
        · rw [if_neg i1]
          by_cases i2 : l < i ∧ i ≤ k
          · rw [if_pos i2]
            exact h _ _ (by omega) (by omega)
          · rw [if_neg i2]
            exact h _ _ (by omega) (by omega)
      · rw [if_neg j2, if_neg (by omega), if_neg (by omega)]
        exact h _ _ ij (by omega)
theorem pw_sort (h2 : 1 ≤ n) : pw n lt (kas_sort n) (fun p => OkP n p ∧ Ris lt p n) := by
  refine pw_bind (pw_mono (fun r hr => ?_) (pw_count O (Nat.le_refl n) h2 (p := List.toArray (List.range n)) (by unfold OkP; simp)))
  obtain ⟨m, p⟩ := r
  obtain ⟨ok, ri, m1, mn⟩ := hr
  dsimp only at ok ri m1 mn ⊢
  by_cases e : m < n
  · rw [if_pos e, Nat.max_eq_left m1]
    exact pw_bin O (n - m) p m ok (by omega) ri
  · rw [if_neg e]
    have : m = n := by omega
    subst this
    exact ⟨ok, ri⟩
end
end L2
set_option Elab.async false
set_option linter.all false
set_option maxRecDepth 100000
set_option maxHeartbeats 4000000
namespace L2
open PySem PySem.Spec PyProof.Rows PySem.W Ck
section
variable {prog : Program} {w : World} {A : Around} {E : Value → Shared → Prop} {s : Shared}
noncomputable def Asks (prog : Program) (w : World) (A : Around) (vs : List Value) (lt : Nat → Nat → Bool) (s1 : Shared) : Prop :=
  ∀ (Q : SortKind → Shared → Prop), (∀ κ, (∀ (i j : Nat) (C : Bool → Shared → Prop), i < vs.length → j < vs.length → C (lt i j) s1 → kas_ask prog w A κ vs i j C s1) → Q κ s1) → wpAny (model prog w) A (keyKind' vs.toArray) Q (fun _ _ => False) s1
noncomputable def outOf (vs : List Value) (p : Array Nat) : List Value := p.toList.map fun i => vs.getD i Value.none
theorem out_range (vs : List Value) : outOf vs (List.toArray (List.range vs.length)) = vs := by
  unfold outOf
  refine List.ext_getElem (by simp) fun i h1 h2 => ?_
  simp [h2]
theorem zip_snd (vs : List Value) : (vs.toArray.zip vs.toArray).map (·.2) = vs.toArray := by
  refine Array.ext (by simp) fun i h1 h2 => ?_
  simp
theorem sort_ask {a : Addr} {vs : List Value} {n : Nat} {P : PySem.Fin → Shared → Prop} {lt : Nat → Nat → Bool} (O : Ordr lt) (ho : s.heap.get? a = some (seqObj "list" vs.toArray n)) (h64 : vs.length < 64)
    (hk : ∀ h6 : Heap, (∀ b o, b ≠ a → s.heap.get? b = some o → h6.get? b = some o) → 2 ≤ vs.length → Asks prog w A vs lt { s with heap := h6 })
    (fin : ∀ p : Array Nat, OkP vs.length p → Ris lt p vs.length → P (.done (.ret .none)) { s with heap := sortedHeap s.heap a vs (outOf vs p).toArray }) : wpAny (model prog w) A (Builtin.«list.sort» ⟨[.ref a], []⟩) P E s := by
  have ha : a < s.heap.objs.size := Heap.lt_size ho
  have hz : vs.length ≤ sizeLine := by rw [sizeLine_eq]; omega
  obtain ⟨e1, ho1⟩ : ∃ e, (s.heap.update a (Obj.mapSeq fun _ => (#[] : Array Value))).get? a = some (seqObj "list" #[] e) := ⟨_, get?_update_seq ho _⟩
  have keep : ∀ b o, (s.heap.update a (Obj.mapSeq fun _ => (#[] : Array Value))).get? b = some o → (((s.heap.update a (Obj.mapSeq fun _ => (#[] : Array Value))).push (seqObj "tuple" vs.toArray 0)).push (seqObj "list" #[] 0)).get? b = some o := fun b o e => Heap.get?_push_of_some _ (Heap.get?_push_of_some _ e)
  have old : ∀ b o, b ≠ a → s.heap.get? b = some o → (((s.heap.update a (Obj.mapSeq fun _ => (#[] : Array Value))).push (seqObj "tuple" vs.toArray 0)).push (seqObj "list" #[] 0)).get? b = some o := fun b o hb e => keep b o (by rw [Heap.get?_update_ne _ _ _ _ hb]; exact e)
  have ho6 := keep _ _ ho1
  rw [list_sort_plain]
  refine wpAny_bind (listItems_at ho rfl (wpAny_bind (listUpdate_at ho rfl (wpAny_bind (seqEpoch_at ho1 rfl (wpAny_bind (wpAny_newTuple (wpAny_bind (wpAny_newList (wpAny_holding ?_) (Nat.zero_le _))) hz)))) (by rw [List.size_toArray]; exact hz) (Nat.zero_le _))))
  show wpAny (model prog w) A _ P E { s with heap := ((s.heap.update a (Obj.mapSeq fun _ => (#[] : Array Value))).push (seqObj "tuple" vs.toArray 0)).push (seqObj "list" #[] 0) }
  dsimp only
  by_cases h2 : vs.toArray.size < 2
  · rw [if_pos h2, if_pos h2]
    refine wpAny_bind (wpAny_pure ?_)
    rw [StateT.run_pure]
    refine wpAny_bind (wpAny_pure ?_)
    dsimp only
    have ez : (arrOf (SortSt.mk' general' (vs.toArray.zip vs.toArray) #[] 7 none)).map (·.2) = vs.toArray := zip_snd vs
    rw [ez]
    refine wpAny_bind (seqEpoch_at ho6 rfl (wpAny_bind (listUpdate_at ho6 rfl ?_ (Nat.zero_le _) (by rw [List.size_toArray]; omega))))
    simp only [bne_self_eq_false, Bool.false_eq_true, if_false]
    have f := fin (List.toArray (List.range vs.length)) (by unfold OkP; simp) (fun i j ij jl => by
      rw [List.size_toArray] at h2
      have e : i = j := by omega
      subst e
      exact O.irr _)
    rw [out_range] at f
    exact wpAny_pure f
  · rw [if_neg h2, if_neg h2]
    rw [List.size_toArray] at h2
    refine wpAny_bind (wpAny_mono (hk _ old (by omega) _ fun κ ask => ?_) (fun _ _ q => q) fun _ _ x => x.elim)
    refine wpAny_bind (wpAny_mono (kat_run (ks := vs) (Q := fun st' s' => ∃ p : Array Nat, p.size = vs.length ∧ arrOf st' = p.map (kas_item (vs.toArray.zip vs.toArray)) ∧ failedOf st' = none ∧ s' = _ ∧ OkP vs.length p ∧ Ris lt p vs.length) rfl (by omega) h64
      (fun p' st' s' a1 a2 a3 a4 => ⟨p', a1, a2, a3, a4⟩) (pw_wp ask (pw_sort O (by omega)))) ?_ fun _ _ e => e)
    rintro ⟨⟨⟩, st'⟩ s' ⟨p, hp, har, hf, rfl, ok, ri⟩
    dsimp only
    rw [kat_snds rfl har]
    refine wpAny_bind (seqEpoch_at ho6 rfl (wpAny_bind (listUpdate_at ho6 rfl ?_ (Nat.zero_le _) (by rw [List.size_toArray, List.length_map, Array.length_toList, hp]; omega))))
    rw [hf]
    simp only [bne_self_eq_false, Bool.false_eq_true, if_false]
    exact wpAny_pure (fin p ok ri)
theorem sorted_ask {l : Addr} {vs : List Value} {Q : Value → Shared → Prop} {lt : Nat → Nat → Bool} (O : Ordr lt) (hl : s.heap.IsList l vs.toArray) (h64 : vs.length < 64)
    (hk : ∀ h6 : Heap, (∀ b o, s.heap.get? b = some o → h6.get? b = some o) → 2 ≤ vs.length → Asks prog w A.in1.in1 vs lt { s with heap := h6 })
    (fin : ∀ p : Array Nat, OkP vs.length p → Ris lt p vs.length → Q (.ref (s.heap.objs.size + 1)) { s with heap := sortedAll s.heap vs (outOf vs p).toArray }) : wpAny (model prog w) A (call (.builtin "sorted") [.ref l]) Q E s := by
  have hz : vs.length ≤ sizeLine := by rw [sizeLine_eq]; omega
  have hsz : ((s.heap.push (seqObj "list" #[] 0)).update s.heap.objs.size (Obj.mapSeq (· ++ vs.toArray))).objs.size = s.heap.objs.size + 1 := by rw [Heap.size_update, size_push']
  have hoL : (((s.heap.push (seqObj "list" #[] 0)).update s.heap.objs.size (Obj.mapSeq (· ++ vs.toArray))).push (seqObj "list" vs.toArray 0)).get? (s.heap.objs.size + 1) = some (seqObj "list" vs.toArray 0) := by rw [← hsz]; exact Heap.get?_push_size _ rfl
  have keep : ∀ b o, s.heap.get? b = some o → (((s.heap.push (seqObj "list" #[] 0)).update s.heap.objs.size (Obj.mapSeq (· ++ vs.toArray))).push (seqObj "list" vs.toArray 0)).get? b = some o := fun b o q => by
    have hlt : b < s.heap.objs.size := Heap.lt_size q
    refine Heap.get?_push_of_some _ ?_
    rw [Heap.get?_update_ne _ _ _ _ (Nat.ne_of_lt hlt)]
    exact Heap.get?_push_of_some _ q
  refine Calls.call_function_entry kind_sorted plain_sorted entry_sorted (args_sorted1 _) ?_
  unfold Builtin.«sorted»
  refine wpAny_bind (m := checkCount "sorted" 1 1 _) (wpAny_pure (wpAny_bind (collect_list hl (wpAny_bind (wpAny_newList ?_ hz)) hz)))
  show wpAny _ _ _ _ _ { s with heap := ((s.heap.push (seqObj "list" #[] 0)).update s.heap.objs.size (Obj.mapSeq (· ++ vs.toArray))).push (seqObj "list" vs.toArray 0) }
  rw [hsz]
  refine wpAny_bind (wpAny_holding (wpAny_call_entry slot_list_sort ⟨_, hoL, rfl⟩ entry_list_sort (sort_ask (s := { s with heap := ((s.heap.push (seqObj "list" #[] 0)).update s.heap.objs.size (Obj.mapSeq (· ++ vs.toArray))).push (seqObj "list" vs.toArray 0) }) O hoL h64 (fun h6 old => hk h6 fun b o q => old b o (Nat.ne_of_lt (Nat.lt_succ_of_lt (Heap.lt_size q))) (keep b o q)) fun p ok ri => ⟨_, rfl, ?_⟩) (args_list_sort _)))
  exact wpAny_pure ⟨_, rfl, fin p ok ri⟩
noncomputable def ltP (p q : Pair) : Bool := decide (p.1 < q.1) || (decide (p.1 = q.1) && decide (p.2 < q.2))
noncomputable def leP (p q : Pair) : Prop := p.1 < q.1 ∨ (p.1 = q.1 ∧ p.2 ≤ q.2)
theorem ltP_no {p q : Pair} : ltP q p = false ↔ leP p q := by
  unfold ltP leP
  simp only [Bool.or_eq_false_iff, Bool.and_eq_false_iff, decide_eq_false_iff_not]
  omega
theorem ltP_yes {p q : Pair} : ltP p q = true ↔ ¬ leP q p := by
  rw [← ltP_no]
  simp
theorem ordP (ps : List Pair) : Ordr fun i j => ltP (ps.getD i (0, 0)) (ps.getD j (0, 0)) where
  asym a b h := by
    rw [ltP_yes] at h
    rw [ltP_no]
    unfold leP at h ⊢
    omega
  ntr a b c h1 h2 := by
    rw [ltP_no] at h1 h2 ⊢
    unfold leP at h1 h2 ⊢
    omega
noncomputable def PrV (h : Heap) (vs : List Value) (ps : List Pair) : Prop := Paired (fun (v : Value) (p : Pair) => ∃ a t u, v = .ref a ∧ IsTup h a #[.int p.1 t, .int p.2 u]) vs ps
theorem PrV.get {h : Heap} : ∀ {vs : List Value} {ps : List Pair}, PrV h vs ps → ∀ {i : Nat}, i < vs.length → ∃ a t u, vs.getD i Value.none = .ref a ∧ IsTup h a #[.int (ps.getD i (0, 0)).1 t, .int (ps.getD i (0, 0)).2 u]
  | _, _, .nil, i, e => absurd e (by simp)
  | _, _, .cons r t, 0, e => r
  | _, _, .cons r t, i + 1, e => by
    have := PrV.get t (i := i) (by simpa using e)
    simpa using this
theorem PrV.tups {h : Heap} : ∀ {vs : List Value} {ps : List Pair}, PrV h vs ps → ∃ fs : List Value, KatTups h vs fs ∧ fs.length = vs.length ∧ ∀ v ∈ fs, ∃ i t, v = .int i t
  | _, _, .nil => ⟨[], .nil, rfl, fun v hv => by cases hv⟩
  | _, _, .cons (b := p) r t => by
    obtain ⟨fs, k, l, al⟩ := PrV.tups t
    obtain ⟨a, t', u, rfl, o, ho, hc, n, hd⟩ := r
    refine ⟨.int p.1 t' :: fs, .cons ho hc hd rfl k, by simp [l], fun v hv => ?_⟩
    rcases List.mem_cons.mp hv with rfl | hv
    · exact ⟨_, _, rfl⟩
    · exact al v hv
theorem asksP {vs : List Value} {ps : List Pair} {s1 : Shared} (r : PrV s1.heap vs ps) (h2 : 2 ≤ vs.length) : Asks prog w A vs (fun i j => ltP (ps.getD i (0, 0)) (ps.getD j (0, 0))) s1 := by
  intro Q q
  obtain ⟨fs, k, l, al⟩ := r.tups
  refine kat_kind (T := .type "int") k (by omega) (fun v hv => ?_) (by decide) (q _ fun i j C hi hj hc => ?_)
  · obtain ⟨i, t, rfl⟩ := al v hv
    exact Looks.of_pure rfl
  · obtain ⟨a, t, u, e1, o1, g1, c1, n1, d1⟩ := r.get hi
    obtain ⟨b, t', u', e2, o2, g2, c2, n2, d2⟩ := r.get hj
    unfold kas_ask
    rw [e1, e2]
    have hc : C (ltP (ps.getD i (0, 0)) (ps.getD j (0, 0))) s1 := hc
    generalize ps.getD i (0, 0) = p at hc d1
    generalize ps.getD j (0, 0) = q' at hc d2
    obtain ⟨x1, y1⟩ := p
    obtain ⟨x2, y2⟩ := q'
    unfold ltP at hc
    dsimp only at hc d1 d2
    refine kat_lt g1 d1 g2 d2 (kat_cons (wpAny_eqBool_int ?_))
    by_cases ex : x1 = x2
    · subst ex
      rw [show (x1 == x1) = true from by simp]
      refine kat_yes (kat_cons (wpAny_eqBool_int ?_))
      by_cases ey : y1 = y2
      · subst ey
        rw [show (y1 == y1) = true from by simp]
        refine kat_yes (kat_nil ?_)
        have e : (decide (x1 < x1) || decide (x1 = x1) && decide (y1 < y1)) = false := by simp
        rw [e] at hc
        exact hc
      · rw [show (y1 == y2) = false from by simpa using ey]
        refine kat_no (kat_one _ _ (wpAny_lt_int ?_))
        have e : (decide (x1 < x1) || decide (x1 = x1) && decide (y1 < y2)) = decide (y1 < y2) := by simp
        rw [e] at hc
        exact hc
    · rw [show (x1 == x2) = false from by simpa using ex]
      refine kat_no (oneLt_int ?_)
      have e : (decide (x1 < x2) || decide (x1 = x2) && decide (y1 < y2)) = decide (x1 < x2) := by simp [ex]
      rw [e] at hc
      exact hc
end
section
variable {X : Cx}
theorem prv_of {pins : List (Addr × Obj)} {σ : St} {H : Hp} {s : Shared} (I : Inv X pins σ H s) : ∀ {us : List V} {ps : List Pair} {vs : List Value}, Prs H us ps → Vals us vs → PrV s.heap vs ps
  | _, _, _, .nil, .nil => .nil
  | _, _, _, .cons r t, .cons rv tv => by
    obtain ⟨a, rfl, ha⟩ := r
    cases rv
    obtain ⟨its, r', tu, _⟩ := I.tuple (SqT.of ha)
    refine .cons ⟨a, ?_⟩ (prv_of I t tv)
    cases r' with
    | cons x1 r2 =>
      cases r2 with
      | cons x2 r3 =>
        cases r3
        obtain ⟨t1, rfl⟩ := x1
        obtain ⟨t2, rfl⟩ := x2
        exact ⟨t1, t2, rfl, tu⟩
theorem PrV.mono {h h' : Heap} (k : ∀ b o, h.get? b = some o → h'.get? b = some o) : ∀ {vs : List Value} {ps : List Pair}, PrV h vs ps → PrV h' vs ps
  | _, _, .nil => .nil
  | _, _, .cons r t => by
    obtain ⟨a, t1, t2, e, o, ho, hc, n, hd⟩ := r
    exact .cons ⟨a, t1, t2, e, o, k _ _ ho, hc, n, hd⟩ (PrV.mono k t)
theorem pairs_take {α β : Type} {R : α → β → Prop} {as : List α} {bs : List β} (h : Paired R as bs) (da : α) (db : β) : ∀ is : List Nat, (∀ i ∈ is, i < as.length) → Paired R (is.map fun i => as.getD i da) (is.map fun i => bs.getD i db)
  | [], _ => .nil
  | i :: is, hi => by
    refine .cons ?_ (pairs_take h da db is fun j hj => hi j (List.mem_cons_of_mem _ hj))
    have hl := hi i (List.mem_cons_self ..)
    have go : ∀ {as : List α} {bs : List β}, Paired R as bs → ∀ i, i < as.length → R (as.getD i da) (bs.getD i db) := by
      intro as bs h
      induction h with
      | nil => intro i hi; simp at hi
      | cons r t ih =>
        intro i hi
        cases i with
        | zero => simpa using r
        | succ i => simpa using ih i (by simpa using hi)
    exact go h i hl
theorem take_perm {α : Type} (d : α) (l : List α) {is : List Nat} (h : is.Perm (List.range l.length)) : (is.map fun i => l.getD i d).Perm l := by
  refine (h.map _).trans ?_
  have e : (List.range l.length).map (fun i => l.getD i d) = l := List.ext_getElem (by simp) fun i h1 h2 => by simp [h2]
  rw [e]
theorem call_sortedP : CallR X (.builtin "sorted") (fun xs H Q => ∃ (p : Addr) (ps : List Pair), xs = [.ref p] ∧ PLs H p ps ∧ ps.length < 64 ∧ ∀ (q : Addr) (qs : List Pair) (H' : Hp), Same H H' → H q = none → PLs H' q qs → qs.Perm ps → qs.Pairwise leP → Q (.ref q) H') := by
  intro pins s σ H xs us Q I r h
  obtain ⟨p, ps, rfl, ⟨ws, hl, pr⟩, h64, q⟩ := h
  obtain ⟨u, rfl, ru⟩ := vals1 r
  cases ru
  obtain ⟨its, r', pl, hz⟩ := I.list (SqL.of hl)
  have lw := pr.length
  have li : ws.length = its.length := r'.length
  have pv := prv_of I pr r'
  refine sorted_ask (ordP ps) pl.isList (by omega) (fun h6 old h2 => asksP (s1 := { s with heap := h6 }) (pv.mono old) h2) fun g ok ri => ?_
  obtain ⟨e, he⟩ := sortedAll_at s.heap its (outOf its g).toArray
  have hb : ∀ i ∈ g.toList, i < its.length := fun i hi => List.mem_range.mp (ok.mem_iff.mp hi)
  have lg : g.toList.length = its.length := by rw [ok.length_eq, List.length_range]
  have hz2 : (g.toList.map fun i => ws.getD i V.non).length ≤ sizeLine := by rw [List.length_map, lg]; exact sz (by omega)
  have vs2 : Vals (g.toList.map fun i => ws.getD i V.non) (outOf its g) := pairs_take r' V.non Value.none g.toList (fun i hi => by rw [li]; exact hb i hi)
  have pr2 : Prs H (g.toList.map fun i => ws.getD i V.non) (g.toList.map fun i => ps.getD i (0, 0)) := pairs_take pr V.non (0, 0) g.toList (fun i hi => by rw [li]; exact hb i hi)
  have fr : H (s.heap.objs.size + 1) = none := I.hok.fresh (Nat.le_succ _)
  refine ⟨.ref _, _, I.laid (t' := s.toks) (o := .lst (g.toList.map fun i => ws.getD i V.non)) (fun b u e => sortedAll_old e) (Nat.le_succ _) ⟨hz2, outOf its g, e, vs2, by simpa [seqObj] using he⟩, rfl, ?_⟩
  refine q _ _ _ (Same.new (Same.refl H) fr _) fr ⟨_, upd_same, pr2.updN fr _⟩ (take_perm (0, 0) ps (by rw [← lw, li]; exact ok)) ?_
  rw [List.pairwise_map]
  have gs : g.size = its.length := by rw [← lg]; simp
  refine List.pairwise_iff_getElem.mpr fun i j hi hj hij => ?_
  have := ri i j (by omega) (by rw [← gs]; simpa using hj)
  rw [ltP_no] at this
  unfold gA at this
  simpa [show i < g.size by simpa using hi, show j < g.size by simpa using hj] using this
end
end L2
set_option Elab.async false
set_option linter.all false
set_option maxRecDepth 100000
set_option maxHeartbeats 4000000
namespace L2
open PySem PySem.Spec PyProof.Rows PySem.W
section
variable {prog : Program} {w : World} {A : Around} {E : Value → Shared → Prop} {s : Shared} {R : Result → Shared → Prop} {d : Value} {it : Addr} {fp wr : List Addr} {n : Nat} {P : Nat → Value → Prop} {St : Nat → Heap → Prop}
end
section
variable {X : Cx} {e : Expr} {es : List Expr} {kws : List Keyword} {p pos : Pos} {t tk : TA} {x : Str} {id : String} {ks : List Str} {r : List V → List V → Hp → VK → Prop}
end
end L2
set_option Elab.async false
set_option linter.all false
set_option maxRecDepth 100000
set_option maxHeartbeats 4000000
namespace L2
open PySem PySem.Spec PyProof.Rows
section
variable {X : Cx}
end
theorem EqD.two {K : PySem.W.Frag} {H : Hp} {n : Nat} {a b : Addr} {x1 y1 x2 y2 : Int} (ne : a ≠ b) (ha : H a = some (.tup [.int x1, .int y1])) (hb : H b = some (.tup [.int x2, .int y2])) : EqD K H (n + 1) (.ref a) (.ref b) (decide (x1 = x2) && decide (y1 = y2)) := by
  have h := EqD.tup (n := n) (e := fun j => if j = 0 then decide (x1 = x2) else decide (y1 = y2)) ne (SqT.of (K := K) ha) (SqT.of (K := K) hb) (fun j x y ex ey => by
    match j, ex, ey with
    | 0, ex, ey =>
      have e1 : V.int x1 = x := by simpa using ex
      have e2 : V.int x2 = y := by simpa using ey
      rw [← e1, ← e2, if_pos rfl]
      have z := EqD.flat (K := K) (H := H) (n := n) (x := V.int x1) (y := V.int x2) rfl rfl
      exact z
    | 1, ex, ey =>
      have e1 : V.int y1 = x := by simpa using ex
      have e2 : V.int y2 = y := by simpa using ey
      rw [← e1, ← e2, if_neg (by decide)]
      have z := EqD.flat (K := K) (H := H) (n := n) (x := V.int y1) (y := V.int y2) rfl rfl
      exact z
    | j + 2, ex, ey => simp at ex)
  have e : ((List.range (min [V.int x1, V.int y1].length [V.int x2, V.int y2].length)).all (fun j => if j = 0 then decide (x1 = x2) else decide (y1 = y2)) && decide ([V.int x1, V.int y1].length = [V.int x2, V.int y2].length)) = (decide (x1 = x2) && decide (y1 = y2)) := by
    simp [List.range_succ]
  first
    | (rw [e] at h; exact h)
    | (simp [List.range_succ] at h; exact h)
end L2
namespace Ck
open PySem L2
noncomputable def Cut (n : Nat) (p : Pair) : Prop := 0 ≤ p.1 ∧ p.1 + 1 < p.2 ∧ p.2 ≤ (n : Int) + 1 ∧ ¬ (p.1 = 0 ∧ p.2 = (n : Int) + 1)
structure Flo (n : Nat) (ps : List Pair) : Prop where
  cut : ∀ p ∈ ps, Cut n p
  ris : ps.Pairwise leP
  len : ps.length ≤ n
theorem leP_anti {p q : Pair} (h : leP p q) (h' : leP q p) : p = q := by
  unfold leP at h h'
  exact Prod.ext (by omega) (by omega)
theorem ris_uniq {ps qs : List Pair} (hp : ps.Pairwise leP) (hq : qs.Pairwise leP) (h : ps.Perm qs) : ps = qs :=
  List.Perm.eq_of_pairwise (le := leP) (fun _ _ _ _ h1 h2 => leP_anti h1 h2) hp hq h
noncomputable def sides (i j : Nat) : List Pair := (if i = 0 then [] else [(0, (i : Int) + 1)]) ++ (if j = 0 then [] else [((i : Int) + 1, (i : Int) + (j : Int) + 2)])
noncomputable def joinF (i j : Nat) (ps qs : List Pair) : List Pair := ps ++ sides i j ++ qs.map (up ((i : Int) + 1))
section
variable {i j : Nat} {ps qs : List Pair} (hp : Flo i ps) (hq : Flo j qs)
include hp hq
variable {cs : List Pair} (hc : cs.Perm (joinF i j ps qs)) (hs : cs.Pairwise leP)
include hc hs
end
noncomputable def plen (ps : List Pair) : Nat := (ps.map fun p => (p.2 - p.1 - 1).toNat).sum
noncomputable def pnon (ps : List Pair) : Nat := (ps.filter fun p => decide (p.2 - p.1 > 1)).length
theorem plen_snoc (ps : List Pair) (p : Pair) : plen (ps ++ [p]) = plen ps + (p.2 - p.1 - 1).toNat := by
  unfold plen; simp
theorem pnon_snoc (ps : List Pair) (p : Pair) : pnon (ps ++ [p]) = pnon ps + (if p.2 - p.1 > 1 then 1 else 0) := by
  unfold pnon
  rw [List.filter_append, List.length_append]
  by_cases h : p.2 - p.1 > 1
  · rw [if_pos h, List.filter_cons_of_pos (by simpa using h)]; rfl
  · rw [if_neg h, List.filter_cons_of_neg (by simpa using h)]; rfl
theorem pnon_le (ps : List Pair) : pnon ps ≤ plen ps := by
  induction ps with
  | nil => simp [pnon, plen]
  | cons p ps ih =>
    have e1 : plen (p :: ps) = (p.2 - p.1 - 1).toNat + plen ps := by unfold plen; simp
    by_cases h : p.2 - p.1 > 1
    · have e2 : pnon (p :: ps) = pnon ps + 1 := by unfold pnon; rw [List.filter_cons_of_pos (by simpa using h)]; rfl
      omega
    · have e2 : pnon (p :: ps) = pnon ps := by unfold pnon; rw [List.filter_cons_of_neg (by simpa using h)]
      omega
theorem PLs.put {H : Hp} {l t : Addr} {xs : List V} {ps : List Pair} {p : Pair} (hl : H l = some (.lst xs)) (pr : Prs H xs ps) (ht : H t = some (.tup [.int p.1, .int p.2])) : PLs (L2.upd H l (.lst (xs ++ [.ref t]))) l (ps ++ [p]) :=
  ⟨_, L2.upd_same, (pr.snoc ht).updL hl _⟩
noncomputable def nonU (p : Pair) : Bool := decide (p.2 - p.1 > 1)
theorem filter_take {α : Type} (f : α → Bool) {l : List α} {i : Nat} {p : α} (h : l[i]? = some p) : (l.take (i + 1)).filter f = (l.take i).filter f ++ (if f p = true then [p] else []) := by
  rw [List.take_add_one, h, List.filter_append]
  congr 1
  by_cases e : f p = true
  · rw [if_pos e]; exact List.filter_cons_of_pos e
  · rw [if_neg e]; exact List.filter_cons_of_neg e
theorem Prs.unsnoc {H : Hp} : ∀ {ps : List Pair} {ys : List V} {p : Pair}, Prs H ys (ps ++ [p]) → ∃ zs t, ys = zs ++ [.ref t] ∧ Prs H zs ps ∧ H t = some (.tup [.int p.1, .int p.2])
  | [], _, p, .cons r .nil => by
    obtain ⟨t, e, h⟩ := r
    exact ⟨[], t, by rw [e]; rfl, .nil, h⟩
  | q :: ps, _, p, .cons (a := v) r s => by
    obtain ⟨zs, t, e, pr, h⟩ := Prs.unsnoc s
    exact ⟨v :: zs, t, by rw [e]; rfl, .cons r pr, h⟩
theorem pnon_app (ps qs : List Pair) : pnon (ps ++ qs) = pnon ps + (qs.filter nonU).length := by
  unfold pnon nonU
  rw [List.filter_append, List.length_append]
end Ck
set_option Elab.async false
set_option linter.all false
set_option maxRecDepth 100000
set_option maxHeartbeats 4000000
namespace Ck
open PySem L2
end Ck
set_option Elab.async false
set_option linter.all false
set_option maxRecDepth 100000
set_option maxHeartbeats 4000000
namespace Ck
open PySem L2
end Ck
namespace Ck
open PySem L2
noncomputable def steps (ws : List Int) : List Int := (List.range (ws.length - 1)).map fun (i : Nat) => (ws.getD (i + 1) 0 - ws.getD i 0) % ((ws.length : Int) + 1)
end Ck
set_option Elab.async false
set_option linter.all false
set_option maxRecDepth 100000
set_option maxHeartbeats 4000000
namespace L2
open PySem PySem.W
structure Er1 where
  thing : Addr
noncomputable def errTab1 (K : Frag) (er : Er1) : Bool := (excIn K er.thing veB "ValueError.__new__") && (exmOne K (.ref er.thing) (.ref er.thing) == some true)
structure Er1Ok (K : Frag) (mg : Str → Option Value) (er : Er1) : Prop where
  m_thing : mg "NoThing" = some (.ref er.thing)
  x_thing : excI K er.thing
  t_thing : exmOne K (.ref er.thing) (.ref er.thing) = some true
theorem err1Ok {K : Frag} {mg : Str → Option Value} {er : Er1} (h : errTab1 K er = true) (hm : mg "NoThing" = some (.ref er.thing)) : Er1Ok K mg er := by
  unfold errTab1 at h
  simp only [Bool.and_eq_true, beq_iff_eq] at h
  exact ⟨hm, h.1, h.2⟩
end L2
namespace Ck
open PySem L2
theorem ne_int {a b : Int} (h : a ≠ b) : ¬ V.int a = V.int b := fun z => h (by injection z)
noncomputable def But (l : Addr) (H H' : Hp) : Prop := ∀ b u, b ≠ l → H b = some u → H' b = some u
theorem But.refl (l : Addr) (H : Hp) : But l H H := fun _ _ _ h => h
theorem But.same {l : Addr} {H0 H H' : Hp} (b : But l H H') (s : Same H0 H) (f : H0 l = none) : Same H0 H' := fun x u h => b x u (ne_of_none h f) (s x u h)
theorem But.upd {l : Addr} {H H' : Hp} (b : But l H H') (o : HO) : But l H (upd H' l o) := fun x u n h => (upd_ne n).trans (b x u n h)
theorem But.new {l p : Addr} {H H' : Hp} (b : But l H H') (hp : H' p = none) (o : HO) : But l H (L2.upd H' p o) := fun x u n h => (upd_ne (ne_of_none (b x u n h) hp)).trans (b x u n h)
end Ck
namespace Ck
end Ck
set_option Elab.async false
set_option linter.all false
set_option maxRecDepth 100000
set_option maxHeartbeats 4000000
namespace Ck
open PySem L2
noncomputable def stp (es : List Int) (r : Int) : Int := if 0 < r then es.getD (r - 1).toNat 0 else r
end Ck
namespace Ck
open PySem L2
theorem dec_int (a b : Int) : decide (V.int a = V.int b) = decide (a = b) := by
  by_cases h : a = b
  · rw [decide_eq_true h, decide_eq_true (by rw [h])]
  · rw [decide_eq_false h, decide_eq_false (ne_int h)]
end Ck
namespace Ck
end Ck
namespace Ck
open PySem L2
end Ck
set_option Elab.async false
set_option linter.all false
set_option maxRecDepth 100000
set_option maxHeartbeats 4000000
namespace L2
open PySem PySem.Spec PyProof.Rows
section
variable {X : Cx}
end
end L2
namespace L2
open PySem PySem.Spec PyProof.Rows
end L2
namespace L2
open PySem PySem.Spec PyProof.Rows
end L2
set_option Elab.async false
set_option linter.all false
set_option maxRecDepth 100000
set_option maxHeartbeats 4000000
namespace Ck
open PySem L2
noncomputable def rgI (n : Nat) : List Int := (List.range n).map fun (k : Nat) => (k : Int)
noncomputable def stk (row : List Int) (k p : Nat) : List Int := (rgI p).filter fun m => !decide (m ∈ row.take k)
end Ck
namespace Ck
open PySem L2
end Ck
set_option Elab.async false
set_option linter.all false
set_option maxRecDepth 100000
set_option maxHeartbeats 4000000
namespace Ck
open PySem L2
noncomputable def knots (n : Nat) : List Int := (List.range n).map fun (k : Nat) => 1 + (k : Int)
end Ck
namespace Ck
end Ck
namespace Ck
end Ck
set_option Elab.async false
set_option linter.all false
set_option maxRecDepth 100000
set_option maxHeartbeats 4000000
namespace L2
open PySem PySem.Spec PyProof.Rows PySem.SeqAt
section
variable {X : Cx}
end
end L2
namespace Ck
open PySem L2
end Ck
namespace L2
open PySem
theorem hu1 {A : Around} {k : Nat} (hr : Room k A) : A.units + 1 < cLine := Nat.lt_of_le_of_lt (by omega) hr.un
end L2
namespace Ck
open PySem L2
end Ck
set_option Elab.async false
set_option linter.all false
set_option maxRecDepth 100000
set_option maxHeartbeats 4000000
namespace L2
open PySem PySem.Spec PyProof.Rows
section
variable {X : Cx}
end
end L2
namespace Ck
open PySem L2
end Ck
namespace L2
open PySem PySem.Spec PyProof.Rows PyProof
end L2
set_option Elab.async false
set_option linter.all false
set_option maxRecDepth 100000
set_option maxHeartbeats 4000000
namespace Ck
open PySem L2
inductive Bt where
  | leaf
  | node (l r : Bt)
noncomputable def Bt.size : Bt → Nat
  | .leaf => 0
  | .node l r => l.size + r.size + 1
noncomputable def brk : Bt → List Nat
  | .leaf => []
  | .node l r => 40 :: (brk l ++ 41 :: brk r)
noncomputable def pre (n j : Nat) : Int := ((List.range j).map fun i => sh i * sh (n - 1 - i)).sum
end Ck
set_option Elab.async false
set_option linter.all false
set_option maxRecDepth 100000
set_option maxHeartbeats 4000000
namespace L2
open PySem PySem.Spec PyProof.Rows
section
variable {X : Cx}
variable {X : Cx} {o e : Expr} {es : List Expr} {to : TE} {t : TA} {name : Str} {apos cpos : Pos} {T id : String} {r : V → List V → Hp → VK → Prop}
end
section
variable {X : Cx}
end
end L2
namespace Ck
open PySem L2
noncomputable def sizes (ts : List Bt) : Nat := (ts.map Bt.size).sum
end Ck
set_option Elab.async false
set_option linter.all false
set_option maxRecDepth 100000
set_option maxHeartbeats 4000000
namespace Sx
open PySem PySem.SetTable
theorem sub_len : ∀ {l1 l2 : List Nat}, l1.Nodup → (∀ x ∈ l1, x ∈ l2) → l1.length ≤ l2.length
  | [], l2, _, _ => Nat.zero_le _
  | a :: l1, l2, nd, h => by
    rw [List.nodup_cons] at nd
    have ha := h a (List.mem_cons_self ..)
    have := sub_len (l1 := l1) (l2 := l2.erase a) nd.2 fun x hx => (List.mem_erase_of_ne (fun e => nd.1 (by rw [← e]; exact hx))).mpr (h x (List.mem_cons_of_mem _ hx))
    rw [List.length_erase_of_mem ha] at this
    have hp := List.length_pos_of_mem ha
    simp only [List.length_cons]
    omega
theorem free_one {l : List Nat} {m : Nat} (h : l.length ≤ m) : ∃ t, t ≤ m ∧ t ∉ l := by
  apply Classical.byContradiction
  intro hn
  have := sub_len (l1 := List.range (m + 1)) (l2 := l) List.nodup_range fun x hx => by
    apply Classical.byContradiction
    intro hx'
    exact hn ⟨x, Nat.lt_succ_iff.mp (List.mem_range.mp hx), hx'⟩
  rw [List.length_range] at this
  omega
noncomputable def Ris (xs : List Nat) : Prop := xs.Pairwise (· < ·)
theorem below_go (xs : Array Nat) (j : Nat) (hr : Ris xs.toList) : ∀ (fuel lo hi : Nat), hi - lo ≤ fuel → lo ≤ hi → hi ≤ xs.size → (∀ i x, i < lo → xs[i]? = some x → x < j) → (∀ i x, hi ≤ i → xs[i]? = some x → j ≤ x) →
    below.go xs j fuel lo hi ≤ xs.size ∧ (∀ i x, i < below.go xs j fuel lo hi → xs[i]? = some x → x < j) ∧ ∀ i x, below.go xs j fuel lo hi ≤ i → xs[i]? = some x → j ≤ x
  | 0, lo, hi, hf, hl, hh, h1, h2 => by
    have e : lo = hi := by omega
    subst e
    exact ⟨hh, h1, h2⟩
  | fuel + 1, lo, hi, hf, hl, hh, h1, h2 => by
    unfold below.go
    by_cases h : lo < hi
    · rw [if_pos h]
      have hm : (lo + hi) / 2 < xs.size := by omega
      have gm : xs[(lo + hi) / 2]? = some xs[(lo + hi) / 2] := Array.getElem?_eq_getElem hm
      have gd : xs.getD ((lo + hi) / 2) j = xs[(lo + hi) / 2] := by simp [hm]
      simp only [gd]
      have mono : ∀ a b x y, a < b → xs[a]? = some x → xs[b]? = some y → x < y := fun a b x y hab ha hb => by
        obtain ⟨la, ea⟩ := Array.getElem?_eq_some_iff.mp ha
        obtain ⟨lb, eb⟩ := Array.getElem?_eq_some_iff.mp hb
        have := List.pairwise_iff_getElem.mp hr a b (by simpa using la) (by simpa using lb) hab
        simp only [Array.getElem_toList] at this
        omega
      by_cases c : xs[(lo + hi) / 2] < j
      · rw [if_pos c]
        refine below_go xs j hr fuel _ _ (by omega) (by omega) hh (fun i x hlt hx => ?_) h2
        by_cases e : i = (lo + hi) / 2
        · subst e; rw [gm] at hx; cases hx; exact c
        · have := mono i ((lo + hi) / 2) x _ (by omega) hx gm; omega
      · rw [if_neg c]
        refine below_go xs j hr fuel _ _ (by omega) (by omega) (by omega) h1 (fun i x hlt hx => ?_)
        by_cases e : i = (lo + hi) / 2
        · subst e; rw [gm] at hx; cases hx; omega
        · have := mono ((lo + hi) / 2) i _ x (by omega) gm hx; omega
    · rw [if_neg h]
      have e : lo = hi := by omega
      subst e
      exact ⟨hh, h1, h2⟩
theorem below_at (xs : Array Nat) (j : Nat) (hr : Ris xs.toList) : below xs j ≤ xs.size ∧ (∀ i x, i < below xs j → xs[i]? = some x → x < j) ∧ ∀ i x, below xs j ≤ i → xs[i]? = some x → j ≤ x := by
  unfold below
  refine below_go xs j hr xs.size 0 xs.size (by omega) (Nat.zero_le _) (Nat.le_refl _) (fun i x hi _ => absurd hi (Nat.not_lt_zero _)) fun i x hi hx => ?_
  rw [Array.getElem?_eq_none hi] at hx
  cases hx
theorem below_none {xs : Array Nat} {j : Nat} (hr : Ris xs.toList) (h : j ∉ xs.toList) : (xs[below xs j]? == some j) = false := by
  rw [beq_eq_false_iff_ne]
  intro e
  exact h (by rw [Array.mem_toList_iff]; exact Array.mem_of_getElem? e)
theorem slot_free {t : SetTable} {j : Nat} (hr : Ris t.place.toList) (hd : t.dummies = #[]) (h : j ∉ t.place.toList) : t.slot j = .empty := by
  unfold SetTable.slot
  simp only [below_none hr h, Bool.false_eq_true, if_false]
  have : has t.dummies j = false := by rw [hd]; rfl
  rw [this]
  rfl
theorem slot_not_dummy {t : SetTable} {j : Nat} (hd : t.dummies = #[]) : t.slot j = .empty ∨ ∃ i, t.slot j = .live i := by
  unfold SetTable.slot
  have : has t.dummies j = false := by rw [hd]; rfl
  simp only [this]
  split
  · exact .inr ⟨_, rfl⟩
  · exact .inl rfl
theorem slot_empty {t : SetTable} {j : Nat} (hr : Ris t.place.toList) (h : t.slot j = .empty) : j ∉ t.place.toList := by
  intro hj
  unfold SetTable.slot at h
  obtain ⟨h0, h1, h2⟩ := below_at t.place j hr
  obtain ⟨i, hi⟩ := List.getElem?_of_mem hj
  have hi' : t.place[i]? = some j := by simpa using hi
  have e : below t.place j = i := by
    rcases Nat.lt_trichotomy i (below t.place j) with z | z | z
    · have := h1 i j z hi'; omega
    · exact z.symm
    · have lt : below t.place j < t.place.size := Nat.lt_trans z (Array.getElem?_eq_some_iff.mp hi').1
      have g := Array.getElem?_eq_getElem lt
      have := h2 _ _ (Nat.le_refl _) g
      obtain ⟨li, ei⟩ := Array.getElem?_eq_some_iff.mp hi'
      have m := List.pairwise_iff_getElem.mp hr _ _ (by simpa using lt) (by simpa using li) z
      simp only [Array.getElem_toList] at m
      omega
  simp only [e, hi', beq_self_eq_true, if_true] at h
  cases h
noncomputable def iter (m : Nat) : Nat → Nat × Nat → Nat × Nat
  | 0, p => p
  | k + 1, p => iter m k (leap m p.1 p.2)
theorem iter_add (m : Nat) : ∀ (a b : Nat) (p : Nat × Nat), iter m (a + b) p = iter m b (iter m a p)
  | 0, b, p => by rw [Nat.zero_add]; rfl
  | a + 1, b, p => by rw [show a + 1 + b = (a + b) + 1 by omega]; exact iter_add m a b _
theorem iter_snd (m : Nat) : ∀ (k : Nat) (p : Nat × Nat), (iter m k p).2 = p.2 / 32 ^ k
  | 0, p => by show p.2 = _; simp
  | k + 1, p => by
    show (iter m k (leap m p.1 p.2)).2 = _
    rw [iter_snd m k]
    show p.2 / 32 / 32 ^ k = _
    rw [Nat.div_div_eq_div_mul, Nat.pow_succ, Nat.mul_comm]
theorem iter_fst (m : Nat) : ∀ (k : Nat) (p : Nat × Nat), p.1 ≤ m → (iter m k p).1 ≤ m
  | 0, p, h => h
  | k + 1, p, h => iter_fst m k _ (by show (p.1 * 5 + 1 + p.2 / 32) % (m + 1) ≤ m; exact Nat.lt_succ_iff.mp (Nat.mod_lt _ (Nat.succ_pos _)))
noncomputable def orbit (m : Nat) : Nat → Nat → List Nat
  | 0, _ => []
  | k + 1, i => i :: orbit m k ((i * 5 + 1) % (m + 1))
theorem orbit_iter (m : Nat) : ∀ (k i t : Nat), t ∈ orbit m k i → ∃ n, n < k ∧ (iter m n (i, 0)).1 = t
  | k + 1, i, t, h => by
    rcases List.mem_cons.mp h with rfl | h
    · exact ⟨0, Nat.succ_pos _, rfl⟩
    · obtain ⟨n, hn, e⟩ := orbit_iter m k _ t h
      exact ⟨n + 1, by omega, by
        show (iter m n (leap m i 0)).1 = t
        have : leap m i 0 = ((i * 5 + 1) % (m + 1), 0) := rfl
        rw [this]; exact e⟩
noncomputable def Msk (m : Nat) : Prop := m = 7 ∨ m = 31 ∨ m = 127
noncomputable def whole (m : Nat) : Bool := (let o := orbit m (m + 1) 0; (List.range (m + 1)).all fun t => o.contains t) && decide (iter m (m + 1) (0, 0) = (0, 0))
theorem whole_7 : whole 7 = true := by decide +kernel
theorem whole_31 : whole 31 = true := by decide +kernel
theorem whole_127 : whole 127 = true := by decide +kernel
theorem Msk.whole {m : Nat} (h : Msk m) : whole m = true := by
  rcases h with rfl | rfl | rfl
  · exact whole_7
  · exact whole_31
  · exact whole_127
theorem iter_zero (m : Nat) (k i : Nat) : iter m k (i, 0) = ((iter m k (i, 0)).1, 0) := by
  have : (iter m k (i, 0)).2 = 0 := by rw [iter_snd]; exact Nat.zero_div _
  exact Prod.ext rfl this
theorem around {m i t : Nat} (hm : Msk m) (hi : i ≤ m) (ht : t ≤ m) : ∃ n, n ≤ m ∧ (iter m n (i, 0)).1 = t := by
  have hw := hm.whole
  unfold Sx.whole at hw
  rw [Bool.and_eq_true, decide_eq_true_iff] at hw
  have at_ : ∀ s, s ≤ m → ∃ n, n < m + 1 ∧ (iter m n (0, 0)).1 = s := fun s hs => by
    have := List.all_eq_true.mp hw.1 s (List.mem_range.mpr (Nat.lt_succ_iff.mpr hs))
    exact orbit_iter m (m + 1) 0 s (by simpa using this)
  obtain ⟨a, ha, ea⟩ := at_ i hi
  obtain ⟨b, hb, eb⟩ := at_ t ht
  have ei : iter m a (0, 0) = (i, 0) := by rw [iter_zero, ea]
  by_cases c : a ≤ b
  · refine ⟨b - a, by omega, ?_⟩
    rw [← ei, ← iter_add, show a + (b - a) = b by omega, eb]
  · refine ⟨b + (m + 1) - a, by omega, ?_⟩
    rw [← ei, ← iter_add, show a + (b + (m + 1) - a) = m + 1 + b by omega, iter_add, hw.2, eb]
theorem reach {m i x t : Nat} (hm : Msk m) (hi : i ≤ m) (hx : x < 2 ^ 64) (ht : t ≤ m) : ∃ k, k ≤ 13 + m ∧ (iter m k (i, x)).1 = t := by
  have h13 : (iter m 13 (i, x)).2 = 0 := by
    rw [iter_snd]
    exact Nat.div_eq_of_lt (Nat.lt_of_lt_of_le hx (by decide))
  have hf := iter_fst m 13 (i, x) hi
  obtain ⟨n, hn, e⟩ := around hm hf ht
  refine ⟨13 + n, by omega, ?_⟩
  rw [iter_add, ← e]
  have ep : iter m 13 (i, x) = ((iter m 13 (i, x)).1, 0) := by rw [← h13]
  rw [ep]
theorem bits_lt (h : Int) : bits h < 2 ^ 64 := by
  unfold bits
  have h0 := Int.emod_nonneg h (show (2 ^ 64 : Int) ≠ 0 by decide)
  have h1 := Int.emod_lt_of_pos h (show (0 : Int) < 2 ^ 64 by decide)
  have e : (2 : Int) ^ 64 = 18446744073709551616 := by decide
  have e2 : (2 : Nat) ^ 64 = 18446744073709551616 := by decide
  rw [e] at h0 h1 ⊢
  rw [e2]
  omega
noncomputable def begin_ (m i x : Nat) : Probe := { j := i, more := runEnd m i - i, i := i, perturb := x, dummy := none }
theorem go_run {t : SetTable} {hashAt : Nat → Int} {h : Int} (hd : t.dummies = #[]) (nh : ∀ i, i < t.place.size → hashAt i ≠ h) (nl : ∀ j i, t.slot j = .live i → i < t.place.size) :
    ∀ (r fuel : Nat) (p : Probe), p.more = r → p.dummy = none → p.j + r ≤ t.mask → r + 1 ≤ fuel → (∃ j, probe.go t hashAt h fuel p = some (.empty j none) ∧ t.slot j = .empty ∧ j ≤ t.mask) ∨ probe.go t hashAt h fuel p = probe.go t hashAt h (fuel - (r + 1)) (begin_ t.mask (leap t.mask p.i p.perturb).1 (leap t.mask p.i p.perturb).2)
  | r, 0, p, hr, hdm, hb, hf => by omega
  | r, fuel + 1, p, hr, hdm, hb, hf => by
    rcases slot_not_dummy (t := t) (j := p.j) hd with e | ⟨i, e⟩
    · refine .inl ⟨p.j, ?_, e, by omega⟩
      unfold probe.go
      rw [e, hdm]
    · have ne : (hashAt i == h) = false := beq_eq_false_iff_ne.mpr (nh i (nl _ _ e))
      have st : probe.go t hashAt h (fuel + 1) p = probe.go t hashAt h fuel (t.advance p) := by
        conv => lhs; unfold probe.go
        rw [e]
        simp only [ne, Bool.false_eq_true, if_false]
      rw [st]
      cases r with
      | zero =>
        refine .inr ?_
        have ea : t.advance p = begin_ t.mask (leap t.mask p.i p.perturb).1 (leap t.mask p.i p.perturb).2 := by
          unfold advance
          rw [hr, if_neg (Nat.lt_irrefl _)]
          unfold begin_
          rw [hdm]
        rw [ea]
        rfl
      | succ r =>
        have ea : t.advance p = { p with j := p.j + 1, more := r } := by
          unfold advance
          rw [hr, if_pos (Nat.succ_pos _), Nat.add_sub_cancel]
        rw [ea]
        rcases go_run hd nh nl r fuel { p with j := p.j + 1, more := r } rfl hdm (by show p.j + 1 + r ≤ t.mask; omega) (by omega) with z | z
        · exact .inl z
        · refine .inr (z.trans ?_)
          rw [show fuel + 1 - (r + 1 + 1) = fuel - (r + 1) by omega]
theorem runEnd_le (m i : Nat) : runEnd m i - i ≤ 9 := by unfold runEnd; split <;> omega
theorem runEnd_top {m i : Nat} (h : i ≤ m) : i + (runEnd m i - i) ≤ m := by unfold runEnd; split <;> omega
theorem go_leaps {t : SetTable} {hashAt : Nat → Int} {h : Int} (hd : t.dummies = #[]) (nh : ∀ i, i < t.place.size → hashAt i ≠ h) (nl : ∀ j i, t.slot j = .live i → i < t.place.size) :
    ∀ (k fuel i x : Nat), i ≤ t.mask → t.slot (iter t.mask k (i, x)).1 = .empty → 10 * (k + 1) ≤ fuel → ∃ j, probe.go t hashAt h fuel (begin_ t.mask i x) = some (.empty j none) ∧ t.slot j = .empty ∧ j ≤ t.mask
  | 0, fuel, i, x, hi, he, hf => by
    obtain ⟨f, rfl⟩ : ∃ f, fuel = f + 1 := ⟨fuel - 1, by omega⟩
    refine ⟨i, ?_, he, hi⟩
    have he' : t.slot (begin_ t.mask i x).j = .empty := he
    unfold probe.go
    rw [he']
    rfl
  | k + 1, fuel, i, x, hi, he, hf => by
    have rl := runEnd_le t.mask i
    rcases go_run hd nh nl (runEnd t.mask i - i) fuel (begin_ t.mask i x) rfl rfl (runEnd_top hi) (by omega) with z | z
    · exact z
    · rw [z]
      exact go_leaps hd nh nl k _ _ _ (by show (i * 5 + 1 + x / 32) % (t.mask + 1) ≤ t.mask; exact Nat.lt_succ_iff.mp (Nat.mod_lt _ (Nat.succ_pos _))) he (by omega)
theorem slot_live_lt {t : SetTable} {j i : Nat} (h : t.slot j = .live i) : i < t.place.size := by
  have e : t.slot j = if (t.place[below t.place j]? == some j) = true then .live (below t.place j) else if has t.dummies j = true then .dummy else .empty := rfl
  rw [e] at h
  by_cases c : (t.place[below t.place j]? == some j) = true
  · rw [if_pos c] at h
    cases h
    exact (Array.getElem?_eq_some_iff.mp (by simpa using c)).1
  · rw [if_neg c] at h
    by_cases d : has t.dummies j = true
    · rw [if_pos d] at h; cases h
    · rw [if_neg d] at h; cases h
theorem probe_free {t : SetTable} {hashAt : Nat → Int} {h : Int} (hm : Msk t.mask) (hr : Ris t.place.toList) (hd : t.dummies = #[]) (hs : t.place.size ≤ t.mask) (nh : ∀ i, i < t.place.size → hashAt i ≠ h) :
    ∃ j, t.probe hashAt h (t.probeStart h) = some (.empty j none) ∧ j ∉ t.place.toList ∧ j ≤ t.mask := by
  obtain ⟨g, hg, ng⟩ := free_one (l := t.place.toList) (m := t.mask) (by simpa using hs)
  have hi : bits h % (t.mask + 1) ≤ t.mask := Nat.lt_succ_iff.mp (Nat.mod_lt _ (Nat.succ_pos _))
  obtain ⟨k, hk, ek⟩ := reach hm hi (bits_lt h) hg
  obtain ⟨j, hj, he, jm⟩ := go_leaps (hashAt := hashAt) (h := h) hd nh (fun j i e => slot_live_lt e) k (10 * turns t.mask) (bits h % (t.mask + 1)) (bits h) hi (by rw [ek]; exact slot_free hr hd ng) (by unfold turns; omega)
  exact ⟨j, hj, slot_empty hr he, jm⟩
theorem insertAt_list {α : Type} (xs : Array α) (p : Nat) (x : α) (hp : p ≤ xs.size) : (insertAt xs p x).toList = xs.toList.take p ++ x :: xs.toList.drop p := by
  unfold insertAt
  rw [Array.toList_append, Array.toList_push, Array.toList_extract, Array.toList_extract]
  simp [List.extract_eq_drop_take]
  exact List.take_of_length_le (by simp)
theorem insert_perm {α : Type} (xs : List α) (p : Nat) (x : α) : (xs.take p ++ x :: xs.drop p).Perm (x :: xs) := by
  have := List.perm_middle (a := x) (l₁ := xs.take p) (l₂ := xs.drop p)
  rwa [List.take_append_drop] at this
theorem insert_ris {xs : Array Nat} {j : Nat} (hr : Ris xs.toList) (h : j ∉ xs.toList) : Ris (insertAt xs (below xs j) j).toList := by
  obtain ⟨h0, h1, h2⟩ := below_at xs j hr
  rw [insertAt_list _ _ _ h0]
  have lt : ∀ x ∈ xs.toList.take (below xs j), x < j := fun x hx => by
    obtain ⟨i, hi⟩ := List.getElem?_of_mem hx
    rw [List.getElem?_take] at hi
    split at hi
    · rename_i hlt; exact h1 i x hlt (by simpa using hi)
    · cases hi
  have gt : ∀ x ∈ xs.toList.drop (below xs j), j < x := fun x hx => by
    obtain ⟨i, hi⟩ := List.getElem?_of_mem hx
    rw [List.getElem?_drop] at hi
    have := h2 (below xs j + i) x (Nat.le_add_right _ _) (by simpa using hi)
    have ne : x ≠ j := fun e => h (by rw [← e]; exact List.mem_of_getElem? hi)
    omega
  refine List.pairwise_append.mpr ⟨hr.sublist (List.take_sublist _ _), List.pairwise_cons.mpr ⟨gt, hr.sublist (List.drop_sublist _ _)⟩, fun a ha b hb => ?_⟩
  rcases List.mem_cons.mp hb with rfl | hb
  · exact lt a ha
  · exact Nat.lt_trans (lt a ha) (gt b hb)
structure Tab (t : SetTable) (n : Nat) : Prop where
  msk : Msk t.mask
  ris : Ris t.place.toList
  top : ∀ j ∈ t.place.toList, j ≤ t.mask
  dum : t.dummies = #[]
  len : t.place.size = n
  few : t.place.size ≤ t.mask
theorem Tab.fresh (f mv : Nat) (led : Bool) : Tab (.fresh f mv led) 0 := ⟨.inl rfl, List.Pairwise.nil, (fun j h => nomatch h), rfl, rfl, Nat.zero_le _⟩
theorem Tab.put {t : SetTable} {n j : Nat} (T : Tab t n) (hj : j ∉ t.place.toList) (hjm : j ≤ t.mask) (room : n + 1 ≤ t.mask) : Tab (t.put j).1 (n + 1) ∧ (t.put j).2 = below t.place j ∧ (t.put j).1.plain = t.plain ∧ (t.put j).1.led = t.led ∧ (t.put j).1.mask = t.mask := by
  have h0 := (below_at t.place j T.ris).1
  have hd : has t.dummies j = false := by rw [T.dum]; rfl
  have el := insertAt_list t.place (below t.place j) j h0
  have ls : (insertAt t.place (below t.place j) j).size = n + 1 := by
    rw [← Array.length_toList, el, List.length_append, List.length_take, List.length_cons, List.length_drop, Array.length_toList, T.len]
    have := T.len
    omega
  refine ⟨⟨T.msk, insert_ris T.ris hj, fun i hi => ?_, ?_, ls, by show (insertAt t.place (below t.place j) j).size ≤ t.mask; omega⟩, rfl, rfl, rfl, rfl⟩
  · have hi' : i ∈ (insertAt t.place (below t.place j) j).toList := hi
    rw [el] at hi'
    rcases List.mem_cons.mp ((insert_perm t.place.toList (below t.place j) j).mem_iff.mp hi') with rfl | hi'
    · exact hjm
    · exact T.top i hi'
  · show (if has t.dummies j = true then _ else t.dummies) = #[]
    rw [hd]
    exact T.dum
theorem free_leaps {m : Nat} {owner : Array (Option Nat)} : ∀ (k fuel i x : Nat), (owner.getD (iter m k (i, x)).1 (some 0)).isNone = true → k + 1 ≤ fuel → ∃ j, layClean.free m owner fuel i x = some j ∧ (owner.getD j (some 0)).isNone = true
  | k, 0, i, x, _, hf => by omega
  | k, fuel + 1, i, x, he, hf => by
    unfold layClean.free
    cases e : (List.range (runEnd m i + 1 - i)).find? fun k => (owner.getD (i + k) (some 0)).isNone with
    | some a => exact ⟨i + a, rfl, by have := List.find?_some e; exact this⟩
    | none =>
      cases k with
      | zero =>
        have h0 : (0 : Nat) ∈ List.range (runEnd m i + 1 - i) := List.mem_range.mpr (by unfold runEnd; split <;> omega)
        have := List.find?_eq_none.mp e 0 h0
        have he' : (owner.getD i (some 0)).isNone = true := he
        exact absurd he' (by simpa using this)
      | succ k => exact free_leaps k fuel _ _ he (by omega)
structure Own (m : Nat) (owner : Array (Option Nat)) (js : List Nat) : Prop where
  size : owner.size = m + 1
  nd : js.Nodup
  top : ∀ j ∈ js, j ≤ m
  own : ∀ j k : Nat, owner.getD j none = some k ↔ js[k]? = some j
theorem Own.start (m : Nat) : Own m (Array.replicate (m + 1) none) [] where
  size := by simp
  nd := List.nodup_nil
  top := fun j h => nomatch h
  own := fun j k => by
    have e : (Array.replicate (m + 1) (none : Option Nat)).getD j none = none := by
      rw [Array.getD_eq_getD_getElem?, Array.getElem?_replicate]
      split <;> rfl
    rw [e]
    simp
theorem Own.at_none {m : Nat} {owner : Array (Option Nat)} {js : List Nat} (O : Own m owner js) {j : Nat} (hj : j ≤ m) (h : j ∉ js) : (owner.getD j (some 0)).isNone = true := by
  have lt : j < owner.size := by rw [O.size]; omega
  have e1 : owner.getD j (some 0) = owner.getD j none := by simp [lt]
  rw [e1]
  cases e : owner.getD j none with
  | none => rfl
  | some k => exact absurd (List.mem_of_getElem? ((O.own j k).mp e)) h
theorem Own.none_at {m : Nat} {owner : Array (Option Nat)} {js : List Nat} (O : Own m owner js) {j : Nat} (h : (owner.getD j (some 0)).isNone = true) : j ≤ m ∧ j ∉ js := by
  have lt : j < owner.size := by
    apply Classical.byContradiction
    intro hn
    have : owner.getD j (some 0) = some 0 := by simp [hn]
    rw [this] at h
    cases h
  refine ⟨by rw [O.size] at lt; omega, fun hj => ?_⟩
  obtain ⟨k, hk⟩ := List.getElem?_of_mem hj
  have := (O.own j k).mpr hk
  have e1 : owner.getD j (some 0) = owner.getD j none := by simp [lt]
  rw [e1, this] at h
  cases h
theorem Own.step {m : Nat} {owner : Array (Option Nat)} {js : List Nat} (O : Own m owner js) {j : Nat} (hj : j ≤ m) (h : j ∉ js) : Own m (owner.setIfInBounds j (some js.length)) (js ++ [j]) := by
  have lt : j < owner.size := by rw [O.size]; omega
  refine ⟨by simp [O.size], List.nodup_append.mpr ⟨O.nd, by simp, fun a ha b hb => by
    have : b = j := by simpa using hb
    rw [this]; exact fun e => h (e ▸ ha)⟩, fun i hi => ?_, fun i k => ?_⟩
  · rcases List.mem_append.mp hi with hi | hi
    · exact O.top i hi
    · have : i = j := by simpa using hi
      omega
  · by_cases e : i = j
    · subst e
      have : (owner.setIfInBounds i (some js.length)).getD i none = some js.length := by simp [lt]
      rw [this]
      constructor
      · intro h'
        have : js.length = k := by simpa using h'
        rw [← this]
        simp
      · intro h'
        by_cases hk : k < js.length
        · rw [List.getElem?_append_left hk] at h'
          exact absurd (List.mem_of_getElem? h') h
        · rw [List.getElem?_append_right (by omega)] at h'
          have : k - js.length = 0 := by
            have := (List.getElem?_eq_some_iff.mp h').1
            simp at this
            omega
          rw [show k = js.length by omega]
    · have : (owner.setIfInBounds j (some js.length)).getD i none = owner.getD i none := by
        simp only [Array.getD_eq_getD_getElem?]
        rw [Array.getElem?_setIfInBounds_ne (Ne.symm e)]
      rw [this, O.own]
      by_cases hk : k < js.length
      · rw [List.getElem?_append_left hk]
      · rw [List.getElem?_append_right (by omega), List.getElem?_eq_none (by omega)]
        constructor
        · intro z; cases z
        · intro z
          have : i = j := by
            have l := (List.getElem?_eq_some_iff.mp z).1
            simp at l
            rw [show k - js.length = 0 by omega] at z
            simpa using z.symm
          exact absurd this e
theorem lay_all {m : Nat} (hm : Msk m) : ∀ (hs : List Int) (owner : Array (Option Nat)) (js : List Nat), Own m owner js → js.length + hs.length ≤ m →
    ∃ owner' js', hs.foldl (fun acc h => (do
      let (owner, k) ← acc
      let j ← layClean.free m owner (turns m) (bits h % (m + 1)) (bits h)
      pure (owner.setIfInBounds j (some k), k + 1))) (some (owner, js.length)) = some (owner', js'.length) ∧ Own m owner' js' ∧ js'.length = js.length + hs.length
  | [], owner, js, O, _ => ⟨owner, js, rfl, O, rfl⟩
  | h :: hs, owner, js, O, hl => by
    simp only [List.length_cons] at hl
    obtain ⟨g, hg, ng⟩ := free_one (l := js) (m := m) (by omega)
    have hi : bits h % (m + 1) ≤ m := Nat.lt_succ_iff.mp (Nat.mod_lt _ (Nat.succ_pos _))
    obtain ⟨k, hk, ek⟩ := reach hm hi (bits_lt h) hg
    obtain ⟨j, hj, fj⟩ := free_leaps (owner := owner) k (turns m) (bits h % (m + 1)) (bits h) (by rw [ek]; exact O.at_none hg ng) (by unfold turns; omega)
    obtain ⟨jm, nj⟩ := O.none_at fj
    obtain ⟨o', js', e, O', l'⟩ := lay_all hm hs _ _ (O.step jm nj) (by simp; omega)
    refine ⟨o', js', ?_, O', by rw [l']; simp; omega⟩
    rw [List.foldl_cons, ← e]
    congr 1
    show (do let j ← layClean.free m owner (turns m) (bits h % (m + 1)) (bits h); pure (owner.setIfInBounds j (some js.length), js.length + 1)) = _
    rw [hj]
    simp
theorem layClean_ok {m : Nat} (hm : Msk m) (hs : Array Int) (hl : hs.size ≤ m) : ∃ owner js, layClean m hs = some owner ∧ Own m owner js ∧ js.length = hs.size := by
  obtain ⟨o', js', e, O', l'⟩ := lay_all hm hs.toList _ [] (Own.start m) (by simpa using hl)
  refine ⟨o', js', ?_, O', by simpa using l'⟩
  unfold layClean
  rw [← Array.foldl_toList]
  have e' := congrArg (Option.map (·.1)) e
  exact e'
noncomputable def liveOf (m : Nat) (owner : Array (Option Nat)) : List (Nat × Nat) := (List.range (m + 1)).filterMap fun j => (owner.getD j none).map (j, ·)
theorem liveOf_mem {m : Nat} {owner : Array (Option Nat)} {js : List Nat} (O : Own m owner js) {j k : Nat} : (j, k) ∈ liveOf m owner ↔ js[k]? = some j := by
  unfold liveOf
  rw [List.mem_filterMap]
  constructor
  · rintro ⟨i, hi, e⟩
    cases o : owner.getD i none with
    | none => rw [o] at e; cases e
    | some q =>
      rw [o] at e
      have : i = j ∧ q = k := by simpa using e
      rw [← this.1, ← this.2]
      exact (O.own i q).mp o
  · intro h
    have hj := O.top j (List.mem_of_getElem? h)
    exact ⟨j, List.mem_range.mpr (by omega), by rw [(O.own j k).mpr h]; rfl⟩
theorem liveOf_fst {m : Nat} {owner : Array (Option Nat)} : ((liveOf m owner).map (·.1)).Sublist (List.range (m + 1)) := by
  unfold liveOf
  generalize List.range (m + 1) = l
  induction l with
  | nil => exact .slnil
  | cons j l ih =>
    rw [List.filterMap_cons]
    cases o : owner.getD j none with
    | none => exact ih.cons j
    | some k => exact ih.cons₂ j
theorem range_ris (n : Nat) : (List.range n).Pairwise (· < ·) := List.pairwise_lt_range
theorem live_nd {l : List (Nat × Nat)} (h1 : (l.map (·.1)).Nodup) (h2 : ∀ j j' k, (j, k) ∈ l → (j', k) ∈ l → j = j') : (l.map (·.2)).Nodup := by
  induction l with
  | nil => exact List.nodup_nil
  | cons p l ih =>
    rw [List.map_cons, List.nodup_cons] at h1 ⊢
    refine ⟨fun z => ?_, ih h1.2 fun j j' k a b => h2 j j' k (List.mem_cons_of_mem _ a) (List.mem_cons_of_mem _ b)⟩
    obtain ⟨q, hq, e⟩ := List.mem_map.mp z
    have : p.1 = q.1 := h2 p.1 q.1 p.2 (List.mem_cons_self ..) (by rw [← e]; exact List.mem_cons_of_mem _ hq)
    exact h1.1 (List.mem_map.mpr ⟨q, hq, this.symm⟩)
theorem laid_ok {m : Nat} (hm : Msk m) (f mv : Nat) (led plain : Bool) (hs : Array Int) (hl : hs.size ≤ m) :
    ∃ t order, SetTable.laid m f mv led plain hs = some (t, order) ∧ Tab t hs.size ∧ t.mask = m ∧ t.led = led ∧ t.plain = plain ∧ order.toList.Perm (List.range hs.size) := by
  obtain ⟨owner, js, e, O, l⟩ := layClean_ok hm hs hl
  have nd1 : ((liveOf m owner).map (·.1)).Nodup := (liveOf_fst (m := m) (owner := owner)).nodup List.nodup_range
  have nd2 : ((liveOf m owner).map (·.2)).Nodup := live_nd nd1 fun j j' k a b => by
    have x := (liveOf_mem O).mp a
    have y := (liveOf_mem O).mp b
    rw [x] at y
    exact Option.some.inj y
  have pm : ((liveOf m owner).map (·.2)).Perm (List.range hs.size) := by
    refine (List.perm_ext_iff_of_nodup nd2 List.nodup_range).mpr fun k => ?_
    rw [List.mem_map, List.mem_range]
    constructor
    · rintro ⟨⟨j, k'⟩, h, rfl⟩
      have := (List.getElem?_eq_some_iff.mp ((liveOf_mem O).mp h)).1
      show k' < hs.size
      omega
    · intro h
      have g : js[k]? = some (js[k]'(by omega)) := List.getElem?_eq_getElem (by omega)
      exact ⟨(_, k), (liveOf_mem O).mpr g, rfl⟩
  have len : (liveOf m owner).length = hs.size := by have := pm.length_eq; rwa [List.length_map, List.length_range] at this
  refine ⟨{ mask := m, place := ((liveOf m owner).map (·.1)).toArray, dummies := #[], finger := f, led := led, moves := mv, plain := plain }, ((liveOf m owner).map (·.2)).toArray, ?_, ⟨hm, ?_, ?_, rfl, ?_, ?_⟩, rfl, rfl, rfl, by simpa using pm⟩
  · unfold SetTable.laid
    rw [e]
    rfl
  · show Ris (((liveOf m owner).map (·.1)).toArray).toList
    rw [List.toList_toArray]
    exact (range_ris (m + 1)).sublist liveOf_fst
  · intro j hj
    have hj' : j ∈ (((liveOf m owner).map (·.1)).toArray).toList := hj
    rw [List.toList_toArray] at hj'
    have := List.mem_range.mp (liveOf_fst.subset hj')
    show j ≤ m
    omega
  · show (((liveOf m owner).map (·.1)).toArray).size = hs.size
    simp [len]
  · show (((liveOf m owner).map (·.1)).toArray).size ≤ m
    simp [len]
    exact hl
structure Good (t : SetTable) (n : Nat) : Prop where
  tab : Tab t n
  lax : t.tooFull = false
theorem Good.room {t : SetTable} {n : Nat} (G : Good t n) : n * 5 < t.mask * 3 := by
  have h := G.lax
  unfold tooFull fill at h
  rw [G.tab.dum, G.tab.len] at h
  simp at h
  omega
theorem Good.fresh (f mv : Nat) (led : Bool) : Good (.fresh f mv led) 0 := ⟨Tab.fresh f mv led, by unfold tooFull fill SetTable.fresh; simp⟩
theorem Tab.fits {t : SetTable} {n : Nat} (T : Tab t n) : (t.place.size != n || decide (t.fill > t.mask)) = false := by
  have := T.few
  unfold fill
  rw [T.dum, T.len] at *
  simp
  omega
theorem Good.put {t : SetTable} {n j : Nat} (G : Good t n) (h64 : n < 64) (hj : j ∉ t.place.toList) (hjm : j ≤ t.mask) :
    Tab (t.put j).1 (n + 1) ∧ (t.put j).2 = below t.place j ∧ (t.put j).1.plain = t.plain ∧ (t.put j).1.led = t.led ∧
      ((t.put j).1.tooFull = true → ∀ hs : Array Int, hs.size = n + 1 → sizeAbove (grown (n + 1)) ≤ 128 ∧ ∃ t' order, (t.put j).1.relaid hs (grown (n + 1)) = some (t', order) ∧ Good t' (n + 1) ∧ t'.led = t.led ∧ t'.plain = t.plain ∧ order.toList.Perm (List.range (n + 1))) := by
  have r := G.room
  have hm := G.tab.msk
  obtain ⟨T, e2, e3, e4, e5⟩ := G.tab.put hj hjm (by rcases hm with e | e | e <;> omega)
  refine ⟨T, e2, e3, e4, fun hf hs hsz => ?_⟩
  have hf' : t.mask * 3 ≤ (n + 1) * 5 := by
    unfold tooFull fill at hf
    rw [T.dum, T.len, e5] at hf
    simpa using hf
  have key : ∀ m, Msk m → sizeAbove (grown (n + 1)) = m + 1 → n + 1 ≤ m → (n + 1) * 5 < m * 3 → ∃ t' order, (t.put j).1.relaid hs (grown (n + 1)) = some (t', order) ∧ Good t' (n + 1) ∧ t'.led = t.led ∧ t'.plain = t.plain ∧ order.toList.Perm (List.range (n + 1)) := fun m mm em le lx => by
    unfold relaid
    rw [em, Nat.add_sub_cancel]
    obtain ⟨t', order, a1, a2, a3, a4, a5, a6⟩ := laid_ok mm (t.put j).1.finger ((t.put j).1.movedTo m) (t.put j).1.led (t.put j).1.plain hs (by omega)
    rw [hsz] at a2 a6
    refine ⟨t', order, a1, ⟨a2, ?_⟩, a4.trans e4, a5.trans e3, a6⟩
    unfold tooFull fill
    rw [a2.dum, a2.len, a3]
    simp
    omega
  rcases hm with e | e | e
  · have en : n = 4 := by omega
    subst en
    exact ⟨by decide, key 31 (.inr (.inl rfl)) (by decide) (by decide) (by decide)⟩
  · have en : n = 18 := by omega
    subst en
    exact ⟨by decide, key 127 (.inr (.inr rfl)) (by decide) (by decide) (by decide)⟩
  · omega
end Sx
set_option Elab.async false
set_option linter.all false
set_option maxRecDepth 100000
set_option maxHeartbeats 4000000
namespace Sx
open PySem PyProof.Rows
noncomputable def thI (p : Int × Int) : Int := reduceHash (Builtin.Tuple.tupleHashOf [hashInt p.1, hashInt p.2])
section
variable {prog : Program} {w : World} {A : Around} {E : Value → Shared → Prop} {s : Shared}
noncomputable abbrev IsPr (prog : Program) (w : World) (h : Heap) (T : Addr) (p : Int × Int) : Prop := IsTupleKey (intKind prog w) h [p.1, p.2] T
theorem isPr_of {h : Heap} {T : Addr} {p : Int × Int} {o : Obj} {n : Nat} {t u : Tok} (ho : h.get? T = some o) (hc : o.cls = .type "tuple") (hd : o.data = .seq #[.int p.1 t, .int p.2 u] n) : IsPr prog w h T p :=
  ⟨o, _, n, ho, hc, hd, .cons (intKind_is _ _ _ _) (.cons (intKind_is _ _ _ _) .nil)⟩
theorem items_two {p : Int × Int} {items : List Value} (h : ItemsAre (intKind prog w) [p.1, p.2] items) : ∃ t u, items = [.int p.1 t, .int p.2 u] := by
  cases h with
  | cons h1 h =>
    cases h with
    | cons h2 h =>
      cases h
      obtain ⟨t, rfl⟩ := Value.isInt_shape h1
      obtain ⟨u, rfl⟩ := Value.isInt_shape h2
      exact ⟨t, u, rfl⟩
theorem hashBy_pair {T : Addr} {p : Int × Int} {Q : Bool → Shared → Prop} (hk : IsPr prog w s.heap T p) (q : Q true s) : wpAny (model prog w) A (hashByValue 8 (.ref T)) Q E s := by
  have hT := hk.typeIs
  obtain ⟨o, items, n, ho, hc, hd, hi⟩ := hk
  obtain ⟨t, u, ei⟩ := items_two hi
  have ea : items = #[.int p.1 t, .int p.2 u] := by
    cases items
    simp only at ei
    rw [ei]
  subst ea
  unfold hashByValue
  refine wpAny_bind (wpAny_specialOf hT F.slot_tuple_hash.lookup ?_)
  simp only
  refine wpAny_bind ?_
  unfold seqItems?
  refine wpAny_bind (wpAny_load ho ?_)
  rw [hd]
  refine wpAny_pure ?_
  simp only [Option.getD_some, ← Array.forIn_toList, List.forIn_cons, List.forIn_nil, hashByValue, pure_bind]
  simp only [Bool.not_true, Bool.false_eq_true, if_false, pure_bind]
  exact wpAny_pure q
structure PSet (h : Heap) (a : Addr) (led : Bool) (es : Array (Int × Value)) : Prop where
  at_ : ∃ o ep t, h.get? a = some o ∧ o.ExactSet ∧ o.data = .set es ep t ∧ Good t es.size ∧ t.led = led ∧ t.plain = true
theorem fits_of {t : SetTable} {n : Nat} (T : Tab t n) : t.fits n = true := by
  have h := T.fits
  unfold SetTable.fits
  rw [Bool.or_eq_false_iff] at h
  rw [Bool.and_eq_true]
  refine ⟨by simpa using h.1, ?_⟩
  have := h.2
  simp at this
  simp
  omega
theorem putSet_get {h : Heap} {a : Addr} {o : Obj} {es es' : Array (Int × Value)} {ep : Nat} {t t' : SetTable} (ho : h.get? a = some o) (hd : o.data = .set es ep t) : (h.update a (Obj.putSet es' t')).get? a = some { o with data := .set es' (ep + 1) t' } := by
  have := Heap.get?_update_self (Obj.putSet es' t') ho (by rw [putSet_of es' t' hd]; rfl)
  rw [putSet_of es' t' hd] at this
  exact this
theorem filter_perm {α : Type} {es : Array α} {order : Array Nat} (h : order.toList.Perm (List.range es.size)) : (order.filterMap (es[·]?)).toList.Perm es.toList := by
  rw [Array.toList_filterMap]
  refine (h.filterMap _).trans ?_
  have : (List.range es.size).filterMap (fun i => es[i]?) = es.toList := by
    have e : (fun i => es[i]?) = fun i => es.toList[i]? := funext fun i => Array.getElem?_toList.symm
    rw [e, show es.size = es.toList.length from Array.length_toList.symm]
    generalize es.toList = l
    induction l with
    | nil => rfl
    | cons a l ih =>
      rw [List.length_cons, List.range_succ_eq_map, List.filterMap_cons]
      simp only [List.getElem?_cons_zero, List.filterMap_map]
      congr 1
  rw [this]
theorem relay_ok {a : Addr} {o : Obj} {es : Array (Int × Value)} {ep : Nat} {t t' : SetTable} {order : Array Nat} {wanted : Nat} {Q : Unit → Shared → Prop} (ho : s.heap.get? a = some o) (hd : o.data = .set es ep t) (T : Tab t es.size) (h64 : es.size ≤ 64)
    (hz : SetTable.sizeAbove wanted ≤ 128) (hr : t.relaid (es.map (·.1)) wanted = some (t', order)) (pm : order.toList.Perm (List.range es.size))
    (q : Q () { s with heap := s.heap.update a (Obj.putSet (order.filterMap (es[·]?)) t') }) : wpAny (model prog w) A (setRelay a wanted) Q E s := by
  have fp := filter_perm pm
  have fs : (order.filterMap (es[·]?)).size = es.size := by rw [← Array.length_toList, fp.length_eq, Array.length_toList]
  unfold setRelay
  refine wpAny_bind (wpAny_setState_of ho hd (fits_of T) ?_)
  simp only
  rw [if_neg (by rw [sizeLine_eq]; omega), hr]
  refine wpAny_bind ?_
  show wpAny (model prog w) A (if ((order.filterMap (es[·]?)).size != es.size) = true then _ else _) _ E s
  rw [if_neg (by rw [fs]; simp)]
  refine wpAny_pure ?_
  exact wpAny_storeSet_of ho hd q (by rw [fs, sizeLine_eq]; omega)
end
end Sx
set_option Elab.async false
set_option linter.all false
set_option maxRecDepth 100000
set_option maxHeartbeats 4000000
namespace Sx
open PySem PyProof.Rows
theorem slot_next : Slot "set_iterator" "__next__" "set_iterator.__next__" :=
  .of (owner := "set_iterator") (n := "__next__") (by rw [typeLookup_type, builtinLookup_eq_fast]; kernel_rfl) (by decide +kernel) (by decide +kernel) (by decide +kernel)
    (by first | exact .inl (by decide +kernel) | exact .inr (by decide +kernel)) (by rw [isSubtype_type]; kernel_rfl)
theorem entry_next : entryFor table "set_iterator.__next__" = some Builtin.«set_iterator.__next__» := entryFor_of_tree (by kernel_rfl)
theorem entry_iter : entryFor table "set.__iter__" = some Builtin.«frozenset.__iter__» :=
  entryFor_alias (id' := "frozenset.__iter__") (by kernel_rfl) rfl (by decide +kernel) (by kernel_rfl)
theorem owner_it : Manifest.owners.lookup (String.ofList ['r', 'o', 't', 'a', 'r', 'e', 't', 'i', '_', 't', 'e', 's'].reverse) = some Manifest.sig_set_iterator := by kernel_rfl
theorem args_next (a : Value) : argsOk "set_iterator.__next__" ⟨[a], []⟩ := by
  unfold argsOk; rw [signature?_of (id := "set_iterator.__next__") (n := ['_', '_', 't', 'x', 'e', 'n', '_', '_']) (o := ['r', 'o', 't', 'a', 'r', 'e', 't', 'i', '_', 't', 'e', 's']) (by kernel_rfl) owner_it]; kernel_rfl
theorem pick_go {α : Type} (next : Nat → Nat) : ∀ (fuel k : Nat) (left : List α) (out : Array α), left.length = fuel → (pickOrder.go next fuel k left out).toList.Perm (out.toList ++ left)
  | 0, k, left, out, h => by
    have : left = [] := List.eq_nil_of_length_eq_zero h
    subst this
    unfold pickOrder.go
    rw [List.append_nil]
  | fuel + 1, k, left, out, h => by
    have lt : next k % left.length < left.length := Nat.mod_lt _ (by omega)
    unfold pickOrder.go
    rw [List.getElem?_eq_getElem lt]
    simp only
    refine (pick_go next fuel (k + 1) _ _ (by rw [List.length_eraseIdx_of_lt lt]; omega)).trans ?_
    rw [Array.toList_push, List.append_assoc]
    refine List.Perm.append_left _ ?_
    rw [List.eraseIdx_eq_take_drop_succ]
    have e := List.perm_middle (a := left[next k % left.length]) (l₁ := left.take (next k % left.length)) (l₂ := left.drop (next k % left.length + 1))
    rw [List.getElem_cons_drop, List.take_append_drop] at e
    exact e.symm
theorem pick_perm {α : Type} (next : Nat → Nat) (xs : Array α) : (pickOrder next xs).toList.Perm xs.toList := by
  have := pick_go next xs.size 0 xs.toList #[] (by simp)
  exact this
noncomputable def byTxt (w : World) : Bool := w.params.followText "set-order"
noncomputable def wk (w : World) (a : Addr) (ep : Nat) (es : Array (Int × Value)) : Array (Int × Value) := if byTxt w = true then pickOrder (w.params.setOrder a ep) es else es
theorem wk_perm (w : World) (a : Addr) (ep : Nat) (es : Array (Int × Value)) : (wk w a ep es).toList.Perm es.toList := by
  unfold wk
  split
  · exact pick_perm _ _
  · exact .refl _
theorem wk_size (w : World) (a : Addr) (ep : Nat) (es : Array (Int × Value)) : (wk w a ep es).size = es.size := by
  rw [← Array.length_toList, (wk_perm w a ep es).length_eq, Array.length_toList]
noncomputable abbrev IsSetIt (h : Heap) (I a : Addr) (slot i n ep : Nat) : Prop := h.get? I = some { cls := .type "set_iterator", dict := none, data := .fields #[rawInt slot, rawInt i, .ref a, rawInt n, rawInt ep], slots := #[] }
theorem below_zero (xs : Array Nat) (hr : Ris xs.toList) : SetTable.below xs 0 = 0 := by
  obtain ⟨h0, h1, h2⟩ := below_at xs 0 hr
  rcases Nat.eq_zero_or_pos (SetTable.below xs 0) with z | z
  · exact z
  · have := h1 0 xs[0] z (Array.getElem?_eq_getElem (by omega))
    omega
theorem below_next {xs : Array Nat} {i j : Nat} (hr : Ris xs.toList) (h : xs[i]? = some j) : SetTable.below xs (j + 1) = i + 1 := by
  obtain ⟨h0, h1, h2⟩ := below_at xs (j + 1) hr
  obtain ⟨li, ei⟩ := Array.getElem?_eq_some_iff.mp h
  have mono : ∀ a b x y, a < b → xs[a]? = some x → xs[b]? = some y → x < y := fun a b x y hab ha hb => by
    obtain ⟨la, ea⟩ := Array.getElem?_eq_some_iff.mp ha
    obtain ⟨lb, eb⟩ := Array.getElem?_eq_some_iff.mp hb
    have := List.pairwise_iff_getElem.mp hr a b (by simpa using la) (by simpa using lb) hab
    simp only [Array.getElem_toList] at this
    omega
  rcases Nat.lt_trichotomy (SetTable.below xs (j + 1)) (i + 1) with z | z | z
  · have := h2 i j (by omega) h; omega
  · exact z
  · have l : i + 1 < xs.size := by omega
    have g := Array.getElem?_eq_getElem l
    have a1 := h1 (i + 1) _ z g
    have a2 := mono i (i + 1) j _ (by omega) h g
    omega
section
variable {prog : Program} {w : World} {A : Around} {E : Value → Shared → Prop} {s : Shared}
theorem byText_ask {Q : Bool → Shared → Prop} (q : Q (byTxt w) s) : wpAny (model prog w) A setsByText Q E s := by
  unfold setsByText
  exact wpAny_bind (wpAny_askSetting (wpAny_pure q))
theorem iter_set {a : Addr} {o : Obj} {es : Array (Int × Value)} {ep : Nat} {t : SetTable} {Q : Value → Shared → Prop} (ho : s.heap.get? a = some o) (hex : o.ExactSet) (hd : o.data = .set es ep t) (T : Tab t es.size) (pl : t.plain = true)
    (q : Q (.ref s.heap.objs.size) { s with heap := s.heap.push { cls := .type "set_iterator", dict := none, data := .fields #[rawInt 0, rawInt 0, .ref a, rawInt es.size, rawInt ep], slots := #[] } }) : wpAny (model prog w) A (pyIter (.ref a)) Q E s := by
  have hT : s.TypeIs (.ref a) "set" := ⟨o, ho, hex.1⟩
  refine wpAny_pyIter_slot hT F.slot_set_iter (wpAny_call_entry F.slot_set_iter hT entry_iter ?_ (F.args_set_iter_1 _))
  unfold Builtin.«frozenset.__iter__» Builtin.Frozenset.slot0 slotArgs
  simp only [List.isEmpty_nil, Bool.not_true, Bool.false_eq_true, ↓reduceIte, bind_assoc, List.length_nil, bne_self_eq_false]
  unfold Builtin.Frozenset.addrOf Builtin.Frozenset.sizeOf
  refine wpAny_bind (wpAny_pure ?_)
  try dsimp only
  refine wpAny_bind (wpAny_pure ?_)
  refine wpAny_bind (wpAny_bind (wpAny_setEntries_of ho hd (fits_of T) (wpAny_pure ?_)))
  refine wpAny_bind ?_
  unfold setDrawn
  refine wpAny_bind (wpAny_setState_of ho hd (fits_of T) ?_)
  refine wpAny_bind (byText_ask (wpAny_pure ?_))
  have nd : ¬ ((!byTxt w && (!t.plain && decide (es.size > 1))) = true) := by rw [pl]; simp
  refine wpAny_ite_split (fun h => absurd h nd) (fun _ => ?_)
  refine wpAny_bind (wpAny_pure ?_)
  refine wpAny_bind (wpAny_setEpoch_of ho hd (fits_of T) ?_)
  unfold newFields
  refine wpAny_bind (wpAny_newObj_type ?_)
  refine wpAny_pure ⟨_, rfl, "set_iterator", _, ⟨_, Heap.get?_push_size _ rfl, rfl⟩, slot_next.lookup, q⟩
structure SetOn (w : World) (h : Heap) (I a : Addr) (es : Array (Int × Value)) (ep : Nat) (t : SetTable) (i : Nat) : Prop where
  it : ∃ slot, IsSetIt h I a slot i es.size ep ∧ (byTxt w = false → SetTable.below t.place slot = i)
  st : ∃ o, h.get? a = some o ∧ o.data = .set es ep t
theorem next_of {a : Addr} {o : Obj} {es : Array (Int × Value)} {ep slot i : Nat} {t : SetTable} {Q : Option (Value × Nat) → Shared → Prop} (ho : s.heap.get? a = some o) (hd : o.data = .set es ep t) (T : Tab t es.size) (pl : t.plain = true) (ld : t.led = !byTxt w)
    (hs : byTxt w = false → SetTable.below t.place slot = i)
    (q0 : es.size ≤ i → Q none s) (q1 : ∀ e nx, (wk w a ep es)[i]? = some e → (byTxt w = false → SetTable.below t.place nx = i + 1) → Q (some (e.2, nx)) s) : wpAny (model prog w) A (setNext a slot i ep) Q E s := by
  unfold setNext
  refine wpAny_bind (wpAny_setState_of ho hd (fits_of T) ?_)
  refine wpAny_bind (byText_ask ?_)
  cases hb : byTxt w with
  | true =>
    simp only [if_true, bne_self_eq_false, Bool.false_eq_true, if_false]
    refine wpAny_bind ?_
    unfold setWalk
    refine wpAny_bind (wpAny_setState_of ho hd (fits_of T) ?_)
    refine wpAny_bind (byText_ask ?_)
    simp only [hb, if_true]
    refine wpAny_bind (wpAny_askSetting (wpAny_pure (wpAny_pure ?_)))
    have ew : wk w a ep es = pickOrder (w.params.setOrder a ep) es := by unfold wk; rw [if_pos hb]
    show Q (((pickOrder (w.params.setOrder a ep) es)[i]?).map fun e => (e.2, slot)) s
    rw [← ew]
    by_cases hi : i < es.size
    · rw [Array.getElem?_eq_getElem (show i < (wk w a ep es).size by rw [wk_size]; exact hi)]
      exact q1 _ slot (Array.getElem?_eq_getElem (show i < (wk w a ep es).size by rw [wk_size]; exact hi)) fun z => by rw [hb] at z; cases z
    · rw [Array.getElem?_eq_none (by rw [wk_size]; omega)]
      exact q0 (by omega)
  | false =>
    simp only [Bool.false_eq_true, if_false]
    have nd : ¬ ((!t.plain && decide (es.size > 1)) = true) := by rw [pl]; simp
    refine wpAny_ite_split (fun h => absurd h nd) (fun _ => ?_)
    refine wpAny_bind ?_
    show wpAny (model prog w) A (if (!t.led && !es.isEmpty) = true then _ else _) _ E s
    rw [if_neg (by rw [ld, hb]; simp)]
    refine wpAny_pure (wpAny_pure ?_)
    rw [hs hb]
    have ew : wk w a ep es = es := by unfold wk; rw [hb, if_neg (by decide)]
    by_cases hi : i < es.size
    · have g1 := Array.getElem?_eq_getElem hi
      have g2 := Array.getElem?_eq_getElem (show i < t.place.size by rw [T.len]; exact hi)
      rw [g1, g2]
      exact q1 _ _ (by rw [ew]; exact g1) fun _ => below_next T.ris g2
    · rw [Array.getElem?_eq_none (show es.size ≤ i by omega)]
      exact q0 (by omega)
theorem body_item {I a : Addr} {es : Array (Int × Value)} {ep i : Nat} {t : SetTable} {Q : Value → Shared → Prop} (hne : a ≠ I) (S : SetOn w s.heap I a es ep t i) (T : Tab t es.size) (pl : t.plain = true) (ld : t.led = !byTxt w) (hi : i < es.size)
    (q : ∀ e h', (wk w a ep es)[i]? = some e → SetOn w h' I a es ep t (i + 1) → Heap.SameBut I s.heap h' → Q e.2 { s with heap := h' }) :
    wpAny (model prog w) A (Builtin.«set_iterator.__next__» ⟨[.ref I], []⟩) (fun fin s' => ∃ v, fin = .done (.ret v) ∧ Q v s') E s := by
  obtain ⟨⟨slot, hit, hs⟩, o, ho, hd⟩ := S
  unfold Builtin.«set_iterator.__next__» slotArgs
  simp only [List.isEmpty_nil, Bool.not_true, Bool.false_eq_true, ↓reduceIte, List.length_nil, bne_self_eq_false, pure_bind]
  refine wpAny_bind (wpAny_fieldsOf hit rfl ?_)
  show wpAny (model prog w) A (setEntries a >>= _) _ E s
  refine wpAny_bind (wpAny_setEntries_of ho hd (fits_of T) ?_)
  rw [if_neg (by simp)]
  show wpAny (model prog w) A (setNext a ((slot : Int)).toNat ((i : Int)).toNat ((ep : Int)).toNat >>= _) _ E s
  rw [Int.toNat_natCast, Int.toNat_natCast, Int.toNat_natCast]
  refine wpAny_bind (next_of ho hd T pl ld hs (fun z => absurd z (by omega)) fun e nx he hn => ?_)
  show wpAny (model prog w) A (setField (.ref I) 0 (rawInt nx) >>= _) _ E s
  refine wpAny_bind (wpAny_setField_rec hit (by simp) fun h1 hit1 sb1 => ?_)
  show wpAny (model prog w) A (setField (.ref I) 1 (rawInt ((i : Int) + 1)) >>= _) _ E _
  refine wpAny_bind (wpAny_setField_rec hit1 (by simp) fun h2 hit2 sb2 => ?_)
  have sb := sb1.trans sb2
  refine wpAny_pure ⟨_, rfl, q e h2 he ⟨⟨nx, ?_, hn⟩, o, (sb.2 a hne).trans ho, hd⟩ sb⟩
  show h2.get? I = _
  rw [hit2]
  rfl
theorem body_end {I a : Addr} {es : Array (Int × Value)} {ep i : Nat} {t : SetTable} {Q : PySem.Fin → Shared → Prop} (hh : A.handled = none) (S : SetOn w s.heap I a es ep t i) (T : Tab t es.size) (pl : t.plain = true) (ld : t.led = !byTxt w) (hi : es.size ≤ i)
    (hE : ∀ h' e, Heap.ExtBut I s.heap h' → (∃ o, h'.get? e = some o ∧ o.cls = .type "StopIteration") → E (.ref e) { s with heap := h' }) :
    wpAny (model prog w) A (Builtin.«set_iterator.__next__» ⟨[.ref I], []⟩) Q E s := by
  obtain ⟨⟨slot, hit, hs⟩, o, ho, hd⟩ := S
  unfold Builtin.«set_iterator.__next__» slotArgs
  simp only [List.isEmpty_nil, Bool.not_true, Bool.false_eq_true, ↓reduceIte, List.length_nil, bne_self_eq_false, pure_bind]
  refine wpAny_bind (wpAny_fieldsOf hit rfl ?_)
  show wpAny (model prog w) A (setEntries a >>= _) _ E s
  refine wpAny_bind (wpAny_setEntries_of ho hd (fits_of T) ?_)
  rw [if_neg (by simp)]
  show wpAny (model prog w) A (setNext a ((slot : Int)).toNat ((i : Int)).toNat ((ep : Int)).toNat >>= _) _ E s
  rw [Int.toNat_natCast, Int.toNat_natCast, Int.toNat_natCast]
  refine wpAny_bind (next_of ho hd T pl ld hs (fun _ => ?_) fun e nx he hn => ?_)
  · show wpAny (model prog w) A (setField (.ref I) 2 .none >>= _) _ E s
    refine wpAny_bind (wpAny_setField_rec hit (by simp) fun h1 hit1 sb1 => ?_)
    show wpAny _ _ (newExc (.type "StopIteration") [] >>= _) _ _ _
    refine wpAny_bind ?_
    simp only [newExc, newTuple]
    refine wpAny_bind (wpAny_newObj_type ?_ (by size_fits))
    refine wpAny_bind (m := firstArgMember _ _) (wpAny_of_eq (a := Value.none) (by first | rfl | (simp only [firstArgMember]; rfl)) ?_)
    refine wpAny_newObj_type ?_ (by size_fits)
    simp only [raiseNew]
    refine wpAny_bind (wpAny_handled ?_)
    rw [hh]
    refine wpAny_bind (wpAny_pure (wpAny_throw ?_))
    exact hE _ _ (fun b o hb e => Heap.get?_push_of_some _ (Heap.get?_push_of_some _ (sb1.extBut b o hb e))) ⟨_, Heap.get?_push_size _ rfl, rfl⟩
  · have := (Array.getElem?_eq_some_iff.mp he).1
    rw [wk_size] at this
    omega
theorem slot_self : Slot "set_iterator" "__iter__" "set_iterator.__iter__" :=
  .of (owner := "set_iterator") (n := "__iter__") (by rw [typeLookup_type, builtinLookup_eq_fast]; kernel_rfl) (by decide +kernel) (by decide +kernel) (by decide +kernel)
    (by first | exact .inl (by decide +kernel) | exact .inr (by decide +kernel)) (by rw [isSubtype_type]; kernel_rfl)
theorem entry_self : entryFor table "set_iterator.__iter__" = some Builtin.«dict_keyiterator.__iter__» :=
  entryFor_alias (id' := "dict_keyiterator.__iter__") (by kernel_rfl) rfl (by decide +kernel) (by kernel_rfl)
theorem args_self (a : Value) : argsOk "set_iterator.__iter__" ⟨[a], []⟩ := by
  unfold argsOk; rw [signature?_of (id := "set_iterator.__iter__") (n := ['_', '_', 'r', 'e', 't', 'i', '_', '_']) (o := ['r', 'o', 't', 'a', 'r', 'e', 't', 'i', '_', 't', 'e', 's']) (by kernel_rfl) owner_it]; kernel_rfl
theorem walks_set (hh : A.handled = none) (I a : Addr) (hne : a ≠ I) (es : Array (Int × Value)) (ep : Nat) (t : SetTable) (T : Tab t es.size) (pl : t.plain = true) (ld : t.led = !byTxt w) :
    Walks prog w A I [I, a] [I] es.size (fun i v => ∃ e, (wk w a ep es)[i]? = some e ∧ v = e.2) (fun i h => SetOn w h I a es ep t i) where
  sub := fun b hb => by simp at hb; simp [hb]
  frame := fun i h h' st hk => by
    obtain ⟨⟨slot, hit, hs⟩, o, ho, hd⟩ := st
    exact ⟨⟨slot, hk I (by simp) _ hit, hs⟩, o, hk a (by simp) _ ho, hd⟩
  item := fun i s Q E hi st hQ => by
    obtain ⟨slot, hit, _⟩ := st.it
    have hT : s.TypeIs (.ref I) "set_iterator" := ⟨_, hit, rfl⟩
    unfold pyNext
    refine wpAny_bind (wpAny_attempt (wpAny_callSpecial?_slot (name := Str.ofString "__next__") hT slot_next (wpAny_call_entry slot_next hT entry_next
      (body_item hne st T pl ld hi fun e h' he S' sb => wpAny_pure ?_) (args_next _))))
    exact hQ e.2 h' s.toks ⟨e, he, rfl⟩ S' fun b o hb x => sb.extBut b o (fun z => hb (by simp [z])) x
  done := fun s Q E st hQ => by
    obtain ⟨slot, hit, _⟩ := st.it
    have hT : s.TypeIs (.ref I) "set_iterator" := ⟨_, hit, rfl⟩
    unfold pyNext
    refine wpAny_bind (wpAny_attempt (wpAny_callSpecial?_slot (name := Str.ofString "__next__") hT slot_next (wpAny_call_entry slot_next hT entry_next
      (body_end (A := A.in1) hh st T pl ld (Nat.le_refl _) fun h' e k he => ?_) (args_next _))))
    obtain ⟨o, ho, hc⟩ := he
    exact wpAny_bind (wpAny_isInstance (T := "StopIteration") (b := true) ⟨o, ho, hc⟩ isSubtype_stop (wpAny_pure (hQ _ s.toks fun b o hb x => k b o (fun z => hb (by simp [z])) x)))
  self := fun i s Q E st hQ => by
    obtain ⟨slot, hit, _⟩ := st.it
    have hT : s.TypeIs (.ref I) "set_iterator" := ⟨_, hit, rfl⟩
    refine wpAny_pyIter_slot hT slot_self (wpAny_call_entry slot_self hT entry_self ?_ (args_self _))
    show wpAny _ _ (ret (.ref I)) _ _ s
    exact wpAny_pure ⟨_, rfl, "set_iterator", _, hT, slot_next.lookup, hQ⟩
end
end Sx
set_option Elab.async false
set_option linter.all false
set_option maxRecDepth 100000
set_option maxHeartbeats 4000000
namespace Sx
open PySem PySem.SetTable PyProof.Rows
noncomputable def adv (m : Nat) (p : Probe) : Probe :=
  if p.more > 0 then { p with j := p.j + 1, more := p.more - 1 } else begin_ m (leap m p.i p.perturb).1 (leap m p.i p.perturb).2
noncomputable def stp (m : Nat) : Nat → Probe → Probe
  | 0, p => p
  | k + 1, p => stp m k (adv m p)
theorem stp_add (m : Nat) : ∀ (a b : Nat) (p : Probe), stp m (a + b) p = stp m b (stp m a p)
  | 0, b, p => by rw [Nat.zero_add]; rfl
  | a + 1, b, p => by rw [show a + 1 + b = (a + b) + 1 by omega]; exact stp_add m a b _
theorem adv_eq {t : SetTable} {p : Probe} (h : p.dummy = none) : t.advance p = adv t.mask p ∧ (adv t.mask p).dummy = none := by
  unfold advance adv
  split
  · exact ⟨rfl, h⟩
  · refine ⟨?_, rfl⟩
    unfold begin_
    rw [h]
theorem stp_dummy (m : Nat) : ∀ (k : Nat) {p : Probe}, p.dummy = none → (stp m k p).dummy = none
  | 0, p, h => h
  | k + 1, p, h => stp_dummy m k (by unfold adv; split; exact h; rfl)
theorem stp_le {m : Nat} : ∀ (k : Nat) {p : Probe}, p.j + p.more ≤ m → (stp m k p).j + (stp m k p).more ≤ m
  | 0, p, h => h
  | k + 1, p, h => stp_le k (by
    unfold adv
    split
    · show p.j + 1 + (p.more - 1) ≤ m; omega
    · exact runEnd_top (Nat.lt_succ_iff.mp (Nat.mod_lt _ (Nat.succ_pos _))))
noncomputable abbrev st0 (m : Nat) (h : Int) : Probe := begin_ m (bits h % (m + 1)) (bits h)
theorem st0_le (m : Nat) (h : Int) : (st0 m h).j + (st0 m h).more ≤ m := runEnd_top (Nat.lt_succ_iff.mp (Nat.mod_lt _ (Nat.succ_pos _)))
noncomputable def Way (m : Nat) (oc : List Nat) (h : Int) (j : Nat) : Prop := ∃ k, (stp m k (st0 m h)).j = j ∧ ∀ n < k, (stp m n (st0 m h)).j ∈ oc
theorem Way.mono {m : Nat} {oc oc' : List Nat} {h : Int} {j : Nat} (W : Way m oc h j) (s : ∀ x ∈ oc, x ∈ oc') : Way m oc' h j := by
  obtain ⟨k, e, a⟩ := W
  exact ⟨k, e, fun n hn => s _ (a n hn)⟩
theorem slot_live {t : SetTable} {j i : Nat} (h : t.slot j = .live i) : t.place[i]? = some j := by
  have e : t.slot j = if (t.place[below t.place j]? == some j) = true then .live (below t.place j) else if has t.dummies j = true then .dummy else .empty := rfl
  rw [e] at h
  by_cases c : (t.place[below t.place j]? == some j) = true
  · rw [if_pos c] at h
    cases h
    simpa using c
  · rw [if_neg c] at h
    by_cases d : has t.dummies j = true
    · rw [if_pos d] at h; cases h
    · rw [if_neg d] at h; cases h
theorem live_mem {t : SetTable} {j i : Nat} (h : t.slot j = .live i) : j ∈ t.place.toList := List.mem_of_getElem? (i := i) (by rw [Array.getElem?_toList]; exact slot_live h)
theorem go_path {t : SetTable} {h : Int} {j : Nat} (hd : t.dummies = #[]) : ∀ (fuel : Nat) (p : Probe), p.dummy = none → probe.go t (fun _ => h + 1) h fuel p = some (.empty j none) →
    ∃ K, K < fuel ∧ (stp t.mask K p).j = j ∧ t.slot j = .empty ∧ ∀ n < K, ∃ i, t.slot (stp t.mask n p).j = .live i
  | 0, p, _, e => by unfold probe.go at e; cases e
  | fuel + 1, p, hp, e => by
    unfold probe.go at e
    rcases slot_not_dummy (t := t) (j := p.j) hd with z | ⟨i, z⟩
    · rw [z] at e
      have : p.j = j := by simpa using congrArg (fun o => match o with | some (Met.empty j _) => j | _ => 0) e
      exact ⟨0, Nat.succ_pos _, this, this ▸ z, fun n hn => absurd hn (Nat.not_lt_zero _)⟩
    · rw [z] at e
      have ne : ((h + 1 : Int) == h) = false := by rw [beq_eq_false_iff_ne]; omega
      simp only [ne, Bool.false_eq_true, if_false] at e
      obtain ⟨ea, da⟩ := adv_eq (t := t) hp
      rw [ea] at e
      obtain ⟨K, hK, e1, e2, e3⟩ := go_path hd fuel _ da e
      refine ⟨K + 1, by omega, e1, e2, fun n hn => ?_⟩
      cases n with
      | zero => exact ⟨i, z⟩
      | succ n => exact e3 n (by omega)
theorem free_way {t : SetTable} {n : Nat} (T : Tab t n) (h : Int) : ∃ K, K < 10 * turns t.mask ∧ t.slot (stp t.mask K (st0 t.mask h)).j = .empty ∧ (stp t.mask K (st0 t.mask h)).j ≤ t.mask ∧ ∀ n < K, ∃ i, t.slot (stp t.mask n (st0 t.mask h)).j = .live i := by
  obtain ⟨j, e, nj, jm⟩ := probe_free (t := t) (hashAt := fun _ => h + 1) (h := h) T.msk T.ris T.dum T.few fun i _ => by omega
  obtain ⟨K, hK, e1, e2, e3⟩ := go_path T.dum _ (st0 t.mask h) rfl e
  exact ⟨K, hK, by rw [e1]; exact e2, by rw [e1]; exact jm, e3⟩
theorem probe_from {t : SetTable} {hashAt : Nat → Int} {h : Int} : ∀ (r fuel : Nat) (p : Probe), r < fuel → p.dummy = none → (∀ n < r, ∃ i, t.slot (stp t.mask n p).j = .live i) → t.slot (stp t.mask r p).j = .empty →
    (probe.go t hashAt h fuel p = some (.empty (stp t.mask r p).j none) ∧ ∀ n < r, ∀ i, t.slot (stp t.mask n p).j = .live i → hashAt i ≠ h) ∨
    ∃ n i, n < r ∧ t.slot (stp t.mask n p).j = .live i ∧ hashAt i = h ∧ (∀ n' < n, ∀ i', t.slot (stp t.mask n' p).j = .live i' → hashAt i' ≠ h) ∧ probe.go t hashAt h fuel p = some (.candidate (stp t.mask n p).j i (stp t.mask (n + 1) p))
  | r, 0, p, hf, _, _, _ => by omega
  | 0, fuel + 1, p, _, hp, _, he => by
    refine .inl ⟨?_, fun n hn => absurd hn (Nat.not_lt_zero _)⟩
    have he' : t.slot p.j = .empty := he
    unfold probe.go
    rw [he', hp]
    rfl
  | r + 1, fuel + 1, p, hf, hp, hl, he => by
    obtain ⟨i, hi⟩ := hl 0 (Nat.succ_pos _)
    have hi' : t.slot p.j = .live i := hi
    obtain ⟨ea, da⟩ := adv_eq (t := t) hp
    by_cases c : hashAt i = h
    · refine .inr ⟨0, i, Nat.succ_pos _, hi, c, fun n' hn => absurd hn (Nat.not_lt_zero _), ?_⟩
      have cb : (hashAt i == h) = true := beq_iff_eq.mpr c
      unfold probe.go
      rw [hi']
      simp only [cb, if_true, ea]
      rfl
    · have cb : (hashAt i == h) = false := beq_eq_false_iff_ne.mpr c
      have st : probe.go t hashAt h (fuel + 1) p = probe.go t hashAt h fuel (adv t.mask p) := by
        conv => lhs; unfold probe.go
        rw [hi', ea]
        simp only [cb, Bool.false_eq_true, if_false]
      rw [st]
      have first : ∀ i', t.slot (stp t.mask 0 p).j = .live i' → hashAt i' ≠ h := fun i' z => by
        have z' : t.slot p.j = .live i' := z
        rw [hi'] at z'
        cases z'
        exact c
      rcases probe_from r fuel (adv t.mask p) (by omega) da (fun n hn => hl (n + 1) (by omega)) he with ⟨a, b⟩ | ⟨n, i', a, b, d, e, f⟩
      · refine .inl ⟨a, fun n hn => ?_⟩
        cases n with
        | zero => exact first
        | succ n => exact b n (by omega)
      · refine .inr ⟨n + 1, i', by omega, b, d, fun n' hn => ?_, f⟩
        cases n' with
        | zero => exact first
        | succ n' => exact e n' (by omega)
noncomputable def Wys (t : SetTable) (es : Array (Int × Value)) : Prop := ∀ q ∈ t.place.toList.zip es.toList, Way t.mask t.place.toList q.2.1 q.1
theorem Wys.at_ {t : SetTable} {es : Array (Int × Value)} (W : Wys t es) {i j : Nat} {e : Int × Value} (hj : t.place[i]? = some j) (he : es[i]? = some e) : Way t.mask t.place.toList e.1 j := by
  refine W (j, e) (List.mem_of_getElem? (i := i) ?_)
  rw [List.getElem?_zip_eq_some]
  exact ⟨by rw [Array.getElem?_toList]; exact hj, by rw [Array.getElem?_toList]; exact he⟩
theorem Wys.fresh (f mv : Nat) (led : Bool) : Wys (.fresh f mv led) #[] := fun q hq => by cases hq
theorem Wys.put {t : SetTable} {es : Array (Int × Value)} {j : Nat} {e : Int × Value} (W : Wys t es) (T : Tab t es.size) (w : Way t.mask t.place.toList e.1 j) : Wys (t.put j).1 (insertAt es (below t.place j) e) := by
  have h0 := (below_at t.place j T.ris).1
  have el := insertAt_list t.place (below t.place j) j h0
  have el2 := insertAt_list es (below t.place j) e (by rw [← T.len]; exact h0)
  have sub : ∀ x ∈ t.place.toList, x ∈ (insertAt t.place (below t.place j) j).toList := fun x hx => by
    rw [el]
    exact (insert_perm _ _ _).mem_iff.mpr (List.mem_cons_of_mem _ hx)
  intro q hq
  show Way t.mask (insertAt t.place (below t.place j) j).toList q.2.1 q.1
  have hq' : q ∈ (insertAt t.place (below t.place j) j).toList.zip (insertAt es (below t.place j) e).toList := hq
  rw [el, el2, List.zip_append (by rw [List.length_take, List.length_take, Array.length_toList, Array.length_toList, T.len]), List.zip_cons_cons] at hq'
  have tz : ∀ (a : List Nat) (b : List (Int × Value)) (p : Nat), (a.take p).zip (b.take p) = (a.zip b).take p := fun a b p => by rw [List.zip_eq_zipWith, List.zip_eq_zipWith, List.take_zipWith]
  have dz : ∀ (a : List Nat) (b : List (Int × Value)) (p : Nat), (a.drop p).zip (b.drop p) = (a.zip b).drop p := fun a b p => by rw [List.zip_eq_zipWith, List.zip_eq_zipWith, List.drop_zipWith]
  rw [tz, dz] at hq'
  rcases List.mem_append.mp hq' with z | z
  · exact (W q (List.mem_of_mem_take z)).mono sub
  · rcases List.mem_cons.mp z with rfl | z
    · exact w.mono sub
    · exact (W q (List.mem_of_mem_drop z)).mono sub
theorem stp_run {m i x : Nat} : ∀ n, n ≤ runEnd m i - i → stp m n (begin_ m i x) = { begin_ m i x with j := i + n, more := runEnd m i - i - n }
  | 0, _ => rfl
  | n + 1, h => by
    rw [stp_add m n 1, stp_run n (by omega)]
    show adv m _ = _
    unfold adv
    rw [if_pos (show runEnd m i - i - n > 0 by omega)]
    simp only [Probe.mk.injEq, and_true]
    exact ⟨by omega, by omega⟩
theorem stp_leap {m i x : Nat} : stp m (runEnd m i - i + 1) (begin_ m i x) = begin_ m (leap m i x).1 (leap m i x).2 := by
  rw [stp_add m (runEnd m i - i) 1, stp_run _ (Nat.le_refl _)]
  show adv m _ = _
  unfold adv
  rw [if_neg (by show ¬ (runEnd m i - i - (runEnd m i - i) > 0); omega)]
  rfl
theorem free_path {m : Nat} {owner : Array (Option Nat)} : ∀ (fuel i x j : Nat), layClean.free m owner fuel i x = some j → ∃ K, (stp m K (begin_ m i x)).j = j ∧ ∀ n < K, (owner.getD (stp m n (begin_ m i x)).j (some 0)).isNone = false
  | 0, i, x, j, e => by unfold layClean.free at e; cases e
  | fuel + 1, i, x, j, e => by
    have hre : i ≤ runEnd m i := by unfold runEnd; split <;> omega
    unfold layClean.free at e
    cases f : (List.range (runEnd m i + 1 - i)).find? fun k => (owner.getD (i + k) (some 0)).isNone with
    | some a =>
      rw [f] at e
      have e' : i + a = j := by simpa using e
      obtain ⟨f1, f2, f3⟩ := List.find?_range_eq_some.mp f
      have f2' := List.mem_range.mp f2
      refine ⟨a, by rw [stp_run a (by omega)]; exact e', fun n hn => ?_⟩
      rw [stp_run n (by omega)]
      simpa using f3 n hn
    | none =>
      rw [f] at e
      have e' : layClean.free m owner fuel (leap m i x).1 (leap m i x).2 = some j := e
      obtain ⟨K, e1, e2⟩ := free_path fuel _ _ j e'
      have f1 := List.find?_range_eq_none.mp f
      rw [← stp_leap] at e1 e2
      refine ⟨runEnd m i - i + 1 + K, by rw [stp_add]; exact e1, fun n hn => ?_⟩
      by_cases c : n ≤ runEnd m i - i
      · rw [stp_run n c]
        simpa using f1 n (by omega)
      · have := e2 (n - (runEnd m i - i + 1)) (by omega)
        rw [← stp_add, show runEnd m i - i + 1 + (n - (runEnd m i - i + 1)) = n by omega] at this
        exact this
noncomputable def WaysL (m : Nat) (js : List Nat) (hs : List Int) : Prop := ∀ q ∈ js.zip hs, Way m js q.2 q.1
theorem lay_ways {m : Nat} (hm : Msk m) : ∀ (hs hs0 : List Int) (owner : Array (Option Nat)) (js : List Nat), Own m owner js → hs0.length = js.length → WaysL m js hs0 → js.length + hs.length ≤ m →
    ∃ owner' js', hs.foldl (fun acc h => (do
      let (owner, k) ← acc
      let j ← layClean.free m owner (turns m) (bits h % (m + 1)) (bits h)
      pure (owner.setIfInBounds j (some k), k + 1))) (some (owner, js.length)) = some (owner', js'.length) ∧ Own m owner' js' ∧ js'.length = js.length + hs.length ∧ WaysL m js' (hs0 ++ hs)
  | [], hs0, owner, js, O, _, w, _ => ⟨owner, js, rfl, O, rfl, by rw [List.append_nil]; exact w⟩
  | h :: hs, hs0, owner, js, O, l0, w, hl => by
    simp only [List.length_cons] at hl
    obtain ⟨g, hg, ng⟩ := free_one (l := js) (m := m) (by omega)
    have hi : bits h % (m + 1) ≤ m := Nat.lt_succ_iff.mp (Nat.mod_lt _ (Nat.succ_pos _))
    obtain ⟨k, hk, ek⟩ := reach hm hi (bits_lt h) hg
    obtain ⟨j, hj, fj⟩ := free_leaps (owner := owner) k (turns m) (bits h % (m + 1)) (bits h) (by rw [ek]; exact O.at_none hg ng) (by unfold turns; omega)
    obtain ⟨jm, nj⟩ := O.none_at fj
    obtain ⟨K, k1, k2⟩ := free_path _ _ _ _ hj
    have wj : Way m (js ++ [j]) h j := ⟨K, k1, fun n hn => by
      have z := k2 n hn
      have le := stp_le n (st0_le m h)
      apply Classical.byContradiction
      intro hc
      have := O.at_none (j := (stp m n (st0 m h)).j) (by omega) (fun hx => hc (List.mem_append_left _ hx))
      rw [this] at z
      cases z⟩
    have w2 : WaysL m (js ++ [j]) (hs0 ++ [h]) := fun q hq => by
      rw [List.zip_append l0.symm] at hq
      rcases List.mem_append.mp hq with z | z
      · exact (w q z).mono fun x hx => List.mem_append_left _ hx
      · have : q = (j, h) := by simpa using z
        rw [this]
        exact wj
    obtain ⟨o', js', e, O', l', w'⟩ := lay_ways hm hs (hs0 ++ [h]) _ _ (O.step jm nj) (by simp [l0]) w2 (by simp; omega)
    refine ⟨o', js', ?_, O', by rw [l']; simp; omega, by rw [List.append_assoc] at w'; exact w'⟩
    rw [List.foldl_cons, ← e]
    congr 1
    show (do let j ← layClean.free m owner (turns m) (bits h % (m + 1)) (bits h); pure (owner.setIfInBounds j (some js.length), js.length + 1)) = _
    rw [hj]
    simp
end Sx
set_option Elab.async false
set_option linter.all false
set_option maxRecDepth 100000
set_option maxHeartbeats 4000000
namespace Sx
open PySem PySem.SetTable PyProof.Rows
theorem zip_live {es : Array (Int × Value)} : ∀ (L : List (Nat × Nat)), (∀ q ∈ L, q.2 < es.size) → ∀ r ∈ (L.map (·.1)).zip ((L.map (·.2)).filterMap (es[·]?)), ∃ k, (r.1, k) ∈ L ∧ es[k]? = some r.2
  | [], _, r, h => by cases h
  | q :: L, hl, r, h => by
    have hq := hl q (List.mem_cons_self ..)
    rw [List.map_cons, List.map_cons, List.filterMap_cons, Array.getElem?_eq_getElem hq] at h
    simp only [List.zip_cons_cons] at h
    rcases List.mem_cons.mp h with rfl | h
    · exact ⟨q.2, List.mem_cons_self .., Array.getElem?_eq_getElem hq⟩
    · obtain ⟨k, a, b⟩ := zip_live L (fun q hq => hl q (List.mem_cons_of_mem _ hq)) r h
      exact ⟨k, List.mem_cons_of_mem _ a, b⟩
theorem laid_wys {m f mv : Nat} {led plain : Bool} {es : Array (Int × Value)} {t : SetTable} {order : Array Nat} (e : SetTable.laid m f mv led plain (es.map (·.1)) = some (t, order)) (T : Tab t es.size) : Wys t (order.filterMap (es[·]?)) := by
  have hm : t.mask = m := by
    unfold SetTable.laid at e
    cases o : layClean m (es.map (·.1)) with
    | none => rw [o] at e; cases e
    | some ow => rw [o] at e; cases e; rfl
  have hM := T.msk
  have few := T.few
  rw [T.len] at few
  rw [hm] at hM few
  obtain ⟨ow, js, e1, O, l, w⟩ := lay_ways hM (es.map (·.1)).toList [] _ [] (Own.start m) rfl (fun q hq => by cases hq) (by simpa using few)
  have ec : layClean m (es.map (·.1)) = some ow := by
    unfold layClean
    rw [← Array.foldl_toList]
    exact congrArg (Option.map (·.1)) e1
  have el : SetTable.laid m f mv led plain (es.map (·.1)) = some ({ mask := m, place := ((liveOf m ow).map (·.1)).toArray, dummies := #[], finger := f, led := led, moves := mv, plain := plain }, ((liveOf m ow).map (·.2)).toArray) := by
    unfold SetTable.laid
    rw [ec]
    rfl
  rw [el] at e
  cases e
  intro q hq
  have lj : js.length = es.size := by simpa using l
  have hq' : q ∈ ((liveOf m ow).map (·.1)).zip (((liveOf m ow).map (·.2)).filterMap (es[·]?)) := by simpa [Array.toList_filterMap] using hq
  obtain ⟨k, hk, ek⟩ := zip_live _ (fun q hq => by
    have := (List.getElem?_eq_some_iff.mp ((liveOf_mem O).mp (show (q.1, q.2) ∈ _ from hq))).1
    omega) q hq'
  have hj := (liveOf_mem O).mp hk
  have wq : Way m js q.2.1 q.1 := w (q.1, q.2.1) (List.mem_of_getElem? (i := k) (by
    rw [List.getElem?_zip_eq_some]
    refine ⟨hj, ?_⟩
    rw [List.nil_append, Array.toList_map, List.getElem?_map, Array.getElem?_toList, ek]
    rfl))
  show Way m ((liveOf m ow).map (·.1)).toArray.toList q.2.1 q.1
  refine wq.mono fun x hx => ?_
  obtain ⟨i, hi⟩ := List.getElem?_of_mem hx
  rw [List.toList_toArray]
  exact List.mem_map.mpr ⟨(x, i), (liveOf_mem O).mpr hi, rfl⟩
section
variable {prog : Program} {w : World} {A : Around} {E : Value → Shared → Prop} {s : Shared}
theorem plain_class {T : Addr} {p : Int × Int} {Q : Bool → Shared → Prop} (hk : IsPr prog w s.heap T p) (q : Q false s) : wpAny (model prog w) A (ofAClassStatement 8 (.ref T)) Q E s := by
  have hT := hk.typeIs
  obtain ⟨o, items, n, ho, hc, hd, hi⟩ := hk
  obtain ⟨t, u, ei⟩ := items_two hi
  have ea : items = #[.int p.1 t, .int p.2 u] := by
    cases items
    simp only at ei
    rw [ei]
  subst ea
  unfold ofAClassStatement
  refine wpAny_bind (wpAny_typeOf hT ?_)
  simp only [beq_self_eq_true, if_true, pure_bind, Bool.not_true, Bool.false_eq_true, if_false]
  refine wpAny_bind (wpAny_seqItems ho hd ?_)
  simp only [← Array.forIn_toList, List.forIn_cons, List.forIn_nil, ofAClassStatement, pure_bind, Bool.false_eq_true, if_false]
  exact wpAny_pure q
theorem not_seen {x : Addr} {p : Int × Int} {Q : Bool → Shared → Prop} (hx : IsPr prog w s.heap x p) (l : List Value) (hl : ∀ v ∈ l, ∃ b r, v = .ref b ∧ IsPr prog w s.heap b r) (q : Q false s) : wpAny (model prog w) A (searchCouldBeSeen (.ref x) l) Q E s := by
  unfold searchCouldBeSeen
  refine wpAny_bind ?_
  refine wpAny_forIn_list _ (fun rest r s' => r.1 = none ∧ s' = s ∧ ∀ v ∈ rest, ∃ b r, v = .ref b ∧ IsPr prog w s.heap b r) _ ?_ ?_ _ _ ⟨rfl, rfl, hl⟩
  · rintro v rest r s' ⟨hr, rfl, hall⟩
    obtain ⟨b, pr, rfl, hb⟩ := hall v List.mem_cons_self
    have hrest : ∀ v ∈ rest, ∃ b r, v = Value.ref b ∧ IsPr prog w s'.heap b r := fun u hu => hall u (List.mem_cons_of_mem _ hu)
    dsimp only
    refine wpAny_ite_split (fun _ => wpAny_pure ⟨rfl, rfl, hrest⟩) (fun _ => ?_)
    refine wpAny_bind (wpAny_eqIsQuiet_tuple hx ?_)
    simp only [Bool.not_true, Bool.false_eq_true, if_false]
    refine wpAny_bind (wpAny_eqIsQuiet_tuple hb ?_)
    simp only [Bool.not_true, Bool.false_eq_true, if_false]
    refine wpAny_bind (plain_class hx ?_)
    simp only [Bool.false_eq_true, if_false]
    refine wpAny_bind (plain_class hb ?_)
    simp only [Bool.false_eq_true, if_false]
    exact wpAny_pure ⟨rfl, rfl, hrest⟩
  · rintro ⟨r1, r2⟩ s' ⟨hr, rfl, _⟩
    simp only at hr
    subst hr
    exact wpAny_pure q
noncomputable def hsAt (es : Array (Int × Value)) (i : Nat) : Int := (es[i]?.map (·.1)).getD 0
noncomputable def elh (th : Int × Int → Int) (e : Addr × (Int × Int)) : Int × Value := (th e.2, .ref e.1)
theorem search_pair {th : Int × Int → Int} {a x : Addr} {p : Int × Int} {o : Obj} {es : Array (Int × Value)} {ep : Nat} {t : SetTable} {U : List (Addr × (Int × Int))} {Q : SetFound → Shared → Prop} (hu : A.units < cLine) (ho : s.heap.get? a = some o) (hd : o.data = .set es ep t) (G : Good t es.size) (W : Wys t es)
    (hU : ∀ e ∈ es.toList, ∃ f ∈ U, e = elh th f) (hP : ∀ f ∈ U, IsPr prog w s.heap f.1 f.2) (hx : IsPr prog w s.heap x p)
    (q1 : (∃ f ∈ U, f.2 = p) → Q (.there none) s) (q2 : ∀ j, (∀ e ∈ es.toList, ∀ f, e = elh th f → f ∈ U → f.2 ≠ p) → j ∉ t.place.toList → j ≤ t.mask → Way t.mask t.place.toList (th p) j → Q (.free j false) s) : wpAny (model prog w) A (setSearch a (.ref x) (th p) true) Q E s := by
  have T := G.tab
  obtain ⟨K, hK, k1, k2, k3⟩ := free_way T (th p)
  have gw : t.gaveWay = false := by
    unfold SetTable.gaveWay
    rcases T.msk with e | e | e <;> rw [e] <;> rfl
  have entry : ∀ i j, t.slot j = .live i → ∃ f, f ∈ U ∧ es[i]? = some (elh th f) := fun i j h => by
    have li := slot_live_lt h
    rw [T.len] at li
    have g := Array.getElem?_eq_getElem li
    obtain ⟨f, hf, e⟩ := hU es[i] (by rw [Array.mem_toList_iff]; exact Array.getElem_mem li)
    exact ⟨f, hf, by rw [g, e]⟩
  have main : ∀ (r k fuel : Nat) (st : Option Probe), K = k + r → r < fuel → st.getD (t.probeStart (th p)) = stp t.mask k (st0 t.mask (th p)) →
      (∀ n < k, ∀ i, t.slot (stp t.mask n (st0 t.mask (th p))).j = .live i → ∀ f, f ∈ U → es[i]? = some (elh th f) → f.2 ≠ p) → wpAny (model prog w) A (setSearchFrom a (.ref x) (th p) true fuel st) Q E s := by
    intro r
    induction r using Nat.strongRecOn with
    | ind r ih =>
      intro k fuel st hk hf hst hno
      obtain ⟨fuel, rfl⟩ : ∃ f, fuel = f + 1 := ⟨fuel - 1, by omega⟩
      unfold setSearchFrom
      refine wpAny_bind (wpAny_setState_of ho hd (fits_of T) ?_)
      simp only [gw, Bool.false_eq_true, if_false]
      rw [hst]
      conv in (SetTable.probe _ _ _ _) => change SetTable.probe t (hsAt es) (th p) (stp t.mask k (st0 t.mask (th p)))
      have pf := probe_from (t := t) (hashAt := (hsAt es)) (h := th p) r (10 * turns t.mask) (stp t.mask k (st0 t.mask (th p))) (by omega) (stp_dummy _ _ rfl) (fun n hn => by rw [← stp_add]; exact k3 _ (by omega)) (by rw [← stp_add, ← hk]; exact k1)
      have hat : ∀ i f, es[i]? = some (elh th f) → (hsAt es) i = th f.2 := fun i f h => by
        unfold hsAt
        rw [h]
        rfl
      rcases pf with ⟨e, hn⟩ | ⟨n, i, hn, hs, hh, hb, e⟩
      · have e' : t.probe (hsAt es) (th p) (stp t.mask k (st0 t.mask (th p))) = _ := e
        rw [e']
        simp only
        rw [← stp_add, ← hk]
        refine wpAny_pure (q2 _ (fun g hg f hgf hf' hp => ?_) (slot_empty T.ris k1) k2 ⟨K, rfl, fun n hn => ?_⟩)
        · obtain ⟨i, hi⟩ := List.getElem?_of_mem hg
          rw [Array.getElem?_toList, hgf] at hi
          have li : i < t.place.size := by rw [T.len]; exact (Array.getElem?_eq_some_iff.mp hi).1
          have gp := Array.getElem?_eq_getElem li
          obtain ⟨n, en, an⟩ := W.at_ gp hi
          have en' : (stp t.mask n (st0 t.mask (th p))).j = t.place[i] := by rw [← hp]; exact en
          have hnK : n < K := by
            rcases Nat.lt_trichotomy n K with z | z | z
            · exact z
            · rw [z] at en'
              exact absurd (by rw [en']; exact List.mem_of_getElem? (i := i) (by rw [Array.getElem?_toList]; exact gp)) (slot_empty T.ris k1)
            · have := an K z
              have := slot_empty T.ris k1
              rw [← hp] at this
              exact absurd (an K z) this
          obtain ⟨i', hi'⟩ := k3 n hnK
          have pi' := slot_live hi'
          have ii : i' = i := by
            rw [en'] at pi'
            have nd : t.place.toList.Nodup := T.ris.imp fun h => Nat.ne_of_lt h
            refine (List.getElem?_inj (l := t.place.toList) (by rw [Array.length_toList]; exact (Array.getElem?_eq_some_iff.mp pi').1) nd).mp ?_
            rw [Array.getElem?_toList, Array.getElem?_toList, pi', gp]
          subst ii
          by_cases c : n < k
          · exact hno n c i' hi' f hf' hi hp
          · have := hn (n - k) (by omega) i' (by rw [← stp_add, show k + (n - k) = n by omega]; exact hi')
            rw [hat i' f hi, hp] at this
            exact this rfl
        · obtain ⟨i, hi⟩ := k3 n hn
          exact live_mem hi
      · have e' : t.probe (hsAt es) (th p) (stp t.mask k (st0 t.mask (th p))) = _ := e
        rw [e']
        simp only
        obtain ⟨f, hf', he⟩ := entry i _ hs
        have hPf := hP f hf'
        cases hl : t.led with
        | true =>
          simp only [Bool.not_true, Bool.false_eq_true, if_false, he]
          refine wpAny_bind (wpAny_holding (wpAny_eqBool_tuple hu hPf hx ?_))
          refine wpAny_bind (wpAny_setState_of ho hd (fits_of T) ?_)
          by_cases c : f.2 = p
          · rw [decide_eq_true (show [f.2.1, f.2.2] = [p.1, p.2] by rw [c])]
            simp only [Bool.and_self, if_true]
            exact wpAny_pure (q1 ⟨f, hf', c⟩)
          · rw [decide_eq_false (show ¬ [f.2.1, f.2.2] = [p.1, p.2] from fun z => c (by
              have : f.2.1 = p.1 ∧ f.2.2 = p.2 := by simpa using z
              exact Prod.ext this.1 this.2))]
            have sm : t.sameMemory t.moves t.mask = some true := by unfold SetTable.sameMemory; rw [beq_self_eq_true]; rfl
            simp only [Bool.and_false, Bool.false_eq_true, if_false, sm, if_true, hs, he]
            have is : isSame (Value.ref f.1) (Value.ref f.1) = pure true := by
              unfold isSame
              simp only [beq_self_eq_true, if_true]
            have is2 : isSame (elh th f).2 (elh th f).2 = pure true := is
            rw [is2]
            simp only [pure_bind, if_true]
            refine ih (r - (n + 1)) (by omega) (k + (n + 1)) fuel _ (by omega) (by omega) ?_ fun n' hn' i' hi' f' hf1 he' hp' => ?_
            · rw [Option.getD_some, ← stp_add]
            · by_cases c1 : n' < k
              · exact hno n' c1 i' hi' f' hf1 he' hp'
              · by_cases c2 : n' < k + n
                · have := hb (n' - k) (by omega) i' (by rw [← stp_add, show k + (n' - k) = n' by omega]; exact hi')
                  rw [hat i' f' he', hp'] at this
                  exact this rfl
                · have en : n' = k + n := by omega
                  rw [en, stp_add, hs] at hi'
                  cases hi'
                  rw [he] at he'
                  have : elh th f = elh th f' := Option.some.inj he'
                  have e1 : f.1 = f'.1 := by
                    have := congrArg Prod.snd this
                    simpa [elh] using this
                  have e2 : IsPr prog w s.heap f.1 f'.2 := by rw [e1]; exact hP f' hf1
                  have := hPf.inj e2
                  have z : f.2.1 = f'.2.1 ∧ f.2.2 = f'.2.2 := by simpa using this
                  exact c (by rw [← hp']; exact Prod.ext z.1 z.2)
        | false =>
          simp only [Bool.not_false, if_true]
          refine wpAny_bind (not_seen hx _ (fun v hv => ?_) ?_)
          · obtain ⟨g, hg, rfl⟩ := List.mem_map.mp hv
            have hg' : g ∈ es.toList := by
              have := Array.mem_toList_iff.mp hg
              rw [Array.mem_filter] at this
              exact Array.mem_toList_iff.mpr this.1
            obtain ⟨f2, hf2, rfl⟩ := hU g hg'
            exact ⟨f2.1, f2.2, rfl, hP f2 hf2⟩
          simp only [Bool.false_eq_true, if_false, he]
          refine wpAny_bind (wpAny_holding (wpAny_eqBool_tuple hu hPf hx ?_))
          refine wpAny_bind (wpAny_setState_of ho hd (fits_of T) ?_)
          by_cases c : f.2 = p
          · rw [decide_eq_true (show [f.2.1, f.2.2] = [p.1, p.2] by rw [c])]
            simp only [Bool.and_self, if_true]
            exact wpAny_pure (q1 ⟨f, hf', c⟩)
          · rw [decide_eq_false (show ¬ [f.2.1, f.2.2] = [p.1, p.2] from fun z => c (by
              have : f.2.1 = p.1 ∧ f.2.2 = p.2 := by simpa using z
              exact Prod.ext this.1 this.2))]
            have sm : t.sameMemory t.moves t.mask = some true := by unfold SetTable.sameMemory; rw [beq_self_eq_true]; rfl
            simp only [Bool.and_false, Bool.false_eq_true, if_false, sm, if_true, hs, he]
            have is : isSame (Value.ref f.1) (Value.ref f.1) = pure true := by
              unfold isSame
              simp only [beq_self_eq_true, if_true]
            have is2 : isSame (elh th f).2 (elh th f).2 = pure true := is
            rw [is2]
            simp only [pure_bind, if_true]
            refine ih (r - (n + 1)) (by omega) (k + (n + 1)) fuel _ (by omega) (by omega) ?_ fun n' hn' i' hi' f' hf1 he' hp' => ?_
            · rw [Option.getD_some, ← stp_add]
            · by_cases c1 : n' < k
              · exact hno n' c1 i' hi' f' hf1 he' hp'
              · by_cases c2 : n' < k + n
                · have := hb (n' - k) (by omega) i' (by rw [← stp_add, show k + (n' - k) = n' by omega]; exact hi')
                  rw [hat i' f' he', hp'] at this
                  exact this rfl
                · have en : n' = k + n := by omega
                  rw [en, stp_add, hs] at hi'
                  cases hi'
                  rw [he] at he'
                  have : elh th f = elh th f' := Option.some.inj he'
                  have e1 : f.1 = f'.1 := by
                    have := congrArg Prod.snd this
                    simpa [elh] using this
                  have e2 : IsPr prog w s.heap f.1 f'.2 := by rw [e1]; exact hP f' hf1
                  have := hPf.inj e2
                  have z : f.2.1 = f'.2.1 ∧ f.2.2 = f'.2.2 := by simpa using this
                  exact c (by rw [← hp']; exact Prod.ext z.1 z.2)
  have le : 10 * turns t.mask ≤ 1420 := by
    unfold turns
    rcases T.msk with e | e | e <;> omega
  unfold setSearch
  exact main K 0 100000 none (by omega) (by omega) rfl fun n hn => absurd hn (Nat.not_lt_zero _)
end
end Sx
set_option Elab.async false
set_option linter.all false
set_option maxRecDepth 100000
set_option maxHeartbeats 4000000
namespace Sx
open PySem PyProof.Rows
noncomputable def el (e : Addr × (Int × Int)) : Int × Value := (thI e.2, .ref e.1)
theorem isPr_at {prog : Program} {w : World} {h h' : Heap} {T : Addr} {p : Int × Int} (k : IsPr prog w h T p) (e : ∀ o, h.get? T = some o → h'.get? T = some o) : IsPr prog w h' T p := by
  obtain ⟨o, items, n, ho, r⟩ := k
  exact ⟨o, items, n, e o ho, r⟩
section
variable {prog : Program} {w : World} {A : Around} {R : Result → Shared → Prop} {I : Addr} {fp wr : List Addr} {G : Array GenState → Array GenState → Prop} {n : Nat} {P : Nat → Value → Prop} {St : Nat → Shared → Prop}
end
section
variable {prog : Program} {w : World} {A : Around} {E : Value → Shared → Prop} {s : Shared}
theorem set_new (a : Value) {Q₁ : Value → Shared → Prop} (h : Q₁ (.ref s.heap.objs.size) { s with heap := s.heap.push { cls := .type "set", dict := none, data := .set #[] 0 (.fresh 0 0 (!byTxt w)) } }) :
    codeAny (model prog w) A (.call (.builtin "set.__new__") ⟨[.type "set", a], []⟩) (wants Q₁ E) s := by
  refine codeAny_of_tree ?_
  show wpAny _ A.in1 (do checkBuiltinCall "set.__new__" ⟨[.type "set", a], []⟩; again (.builtin "set.__new__" ⟨[.type "set", a], []⟩)) _ _ s
  refine wpAny_bind (wpAny_of_eq (F.newCall_set_1 a) (wpAny_pure ⟨plainId_quiet F.plain_set_new _, codeAny_builtin F.entry_set_new ?_⟩))
  rw [Around.under_plainId F.plain_set_new _]
  unfold Builtin.«set.__new__» Builtin.Frozenset.newClass
  have hsub := sub_set_self
  obtain ⟨hp, g, d, tk, os⟩ := s
  dsimp only
  wp_walk
  refine wpAny_askSetting (wpAny_pure ?_)
  dsimp only
  simp only [newObj]
  refine wpAny_bind (wpAny_alloc (wpAny_pure ?_))
  exact wpAny_pure h
end
end Sx
set_option Elab.async false
set_option linter.all false
set_option maxRecDepth 100000
set_option maxHeartbeats 4000000
namespace Sx
open PySem PyProof.Rows
section
variable {prog : Program} {w : World} {A : Around} {E : Value → Shared → Prop} {s : Shared}
theorem hint_set {a : Addr} {o : Obj} {Q : Bool → Shared → Prop} (ho : s.heap.get? a = some o) (hc : o.cls = .type "set") (q : Q false s) : wpAny (model prog w) A (Builtin.List.listLengthHint (.ref a)) Q E s := by
  have hT : s.TypeIs (.ref a) "set" := ⟨o, ho, hc⟩
  unfold Builtin.List.listLengthHint
  refine wpAny_bind (wpAny_specialOf hT F.slot_set_len.lookup ?_)
  generalize hid : ("set.__len__" : String) = id0
  wp_delta
  rw [show splitId id0 = some ("set", "__len__") from by subst hid; decide +kernel]
  subst hid
  refine wpAny_bind (wpAny_isInstance (T := "set") (b := true) hT (by rw [isSubtype_type]; kernel_rfl) ?_)
  refine wpAny_ite_split (fun hab => absurd hab (by decide)) (fun _ => ?_)
  refine wpAny_ite_split (fun _ => ?_) (fun hab => absurd (by decide +kernel) hab)
  refine wpAny_bind (wpAny_typeOf hT (wpAny_pure ?_))
  exact q
theorem collect_set {a : Addr} {o : Obj} {es : Array (Int × Value)} {ep : Nat} {t : SetTable} {Q : List Value → Shared → Prop} (hh : A.handled = none) (ho : s.heap.get? a = some o) (hex : o.ExactSet) (hd : o.data = .set es ep t) (T : Tab t es.size) (pl : t.plain = true) (ld : t.led = !byTxt w) (h64 : es.size ≤ 64)
    (q : ∀ h' tk, (∀ b o, s.heap.get? b = some o → h'.get? b = some o) → Q ((wk w a ep es).toList.map (·.2)) { s with heap := h', toks := tk }) : wpAny (model prog w) A (collect (.ref a)) Q E s := by
  have lta : a < s.heap.objs.size := Heap.lt_size ho
  have hz : es.size ≤ sizeLine := by rw [sizeLine_eq]; omega
  unfold collect
  refine wpAny_bind (wpAny_runValue (codeAny_builtin F.entry_proto_collect ?_))
  rw [Around.under_plainId F.plain_proto_collect _]
  show wpAny _ A.in1 (newList [] >>= fun l => again (.builtin "list.__iadd__" ⟨[l, .ref a], []⟩)) _ _ s
  refine wpAny_bind (wpAny_newObj_type ?_)
  refine wpAny_pure ⟨plainId_quiet F.plain_list_iadd _, codeAny_builtin F.entry_list_iadd ?_⟩
  rw [Around.under_plainId F.plain_list_iadd _]
  have ho1 : (s.heap.push { cls := .type "list", data := .seq ([] : List Value).toArray }).get? a = some o := Heap.get?_push_of_some _ ho
  have hS1 : (s.heap.push { cls := .type "list", data := .seq ([] : List Value).toArray }).get? s.heap.objs.size = some { cls := .type "list", data := .seq ([] : List Value).toArray } := Heap.get?_push_size _ rfl
  have sz1 : (s.heap.push { cls := .type "list", data := .seq ([] : List Value).toArray }).objs.size = s.heap.objs.size + 1 := Heap.size_push ..
  have keep1 : ∀ b o, s.heap.get? b = some o → (s.heap.push { cls := .type "list", data := .seq ([] : List Value).toArray }).get? b = some o := fun b o e => Heap.get?_push_of_some _ e
  show wpAny _ A.in1 (Builtin.List.listExtendWith (.ref s.heap.objs.size) (.ref a) (.ref s.heap.objs.size)) _ _ _
  generalize s.heap.push { cls := .type "list", data := .seq ([] : List Value).toArray } = h1 at ho1 hS1 sz1 keep1 ⊢
  unfold Builtin.List.listExtendWith
  refine wpAny_bind (wpAny_typeOf (T := "set") ⟨o, ho1, hex.1⟩ ?_)
  have e1 : Builtin.List.listSameRef (.ref s.heap.objs.size) (.ref a) = false := by simp [Builtin.List.listSameRef]; exact Nat.ne_of_gt lta
  have e2 : (Value.type "set" == Value.type "list") = false := by decide
  have e3 : (Value.type "set" == Value.type "tuple") = false := by decide
  simp only [e1, e2, e3, Bool.or_false, Bool.false_eq_true, if_false]
  refine wpAny_bind (iter_set (s := { s with heap := h1 }) ho1 hex hd T pl ?_)
  have hI : (h1.push { cls := .type "set_iterator", dict := none, data := .fields #[rawInt 0, rawInt 0, .ref a, rawInt es.size, rawInt ep], slots := #[] }).get? h1.objs.size = some _ := Heap.get?_push_size _ rfl
  have up : ∀ b o, h1.get? b = some o → (h1.push { cls := .type "set_iterator", dict := none, data := .fields #[rawInt 0, rawInt 0, .ref a, rawInt es.size, rawInt ep], slots := #[] }).get? b = some o := fun b o e => Heap.get?_push_of_some _ e
  have sz2 : (h1.push { cls := .type "set_iterator", dict := none, data := .fields #[rawInt 0, rawInt 0, .ref a, rawInt es.size, rawInt ep], slots := #[] }).objs.size = h1.objs.size + 1 := Heap.size_push ..
  have ho2 := up _ _ ho1
  have hS2 := up _ _ hS1
  show wpAny _ A.in1 (holding [.ref h1.objs.size] (Builtin.List.listLengthHint (.ref a)) >>= _) _ _ { s with heap := h1.push { cls := .type "set_iterator", dict := none, data := .fields #[rawInt 0, rawInt 0, .ref a, rawInt es.size, rawInt ep], slots := #[] } }
  generalize h1.push { cls := .type "set_iterator", dict := none, data := .fields #[rawInt 0, rawInt 0, .ref a, rawInt es.size, rawInt ep], slots := #[] } = h2 at hI up sz2 ho2 hS2 ⊢
  refine wpAny_bind (wpAny_holding (hint_set (s := { s with heap := h2 }) ho2 hex.1 ?_))
  have nSI : s.heap.objs.size ≠ h1.objs.size := by rw [sz1]; exact Nat.ne_of_lt (Nat.lt_succ_self _)
  have naI : a ≠ h1.objs.size := by rw [sz1]; exact Nat.ne_of_lt (Nat.lt_succ_of_lt lta)
  have naS : a ≠ s.heap.objs.size := Nat.ne_of_lt lta
  have W := (walks_set (prog := prog) (w := w) (A := A.in1) hh h1.objs.size a naI es ep t T pl ld).toS
  have key : ∀ (h : Heap) (c : Nat) (tk : Nat), SetOn w h h1.objs.size a es ep t 0 → (∀ b o, b ≠ s.heap.objs.size → h2.get? b = some o → h.get? b = some o) → h.get? s.heap.objs.size = some { cls := .type "list", data := .seq #[] c } →
      codeAny (model prog w) A (.builtin "list.extend.loop" ⟨[.ref s.heap.objs.size, .ref h1.objs.size, .ref s.heap.objs.size], []⟩) (fun r s' => match r with | .ok (.ret v) => wpAny (model prog w) A (match v with | .ref a => (load a >>= fun o => match o.data with | .seq xs _ => pure xs.toList | _ => unsupported "internal:collect") | _ => unsupported "internal:collect") Q E s' | .ok _ => False | .error e => E e s') { s with heap := h, toks := tk } := by
    intro h c tk on kp hS
    refine codeAny_extend_loopS W hz s.heap.objs.size (by simp only [List.mem_cons, List.not_mem_nil, or_false, not_or]; exact ⟨nSI, Ne.symm naS⟩) _ es.size 0 _ #[] c rfl (Nat.zero_le _) on hS (ItemsOf.nil _) fun s' acc' c' hm hS' hacc => ?_
    rw [Moved.eq_with hm]
    show wpAny _ A (load s.heap.objs.size >>= _) _ _ _
    refine wpAny_bind (wpAny_load hS' (wpAny_pure ?_))
    have ea : acc'.toList = (wk w a ep es).toList.map (·.2) := by
      refine List.ext_getElem? fun j => ?_
      by_cases hj : j < es.size
      · have lj : j < acc'.size := by rw [hacc.1]; exact hj
        have g := hacc.2 j acc'[j] (Array.getElem?_eq_getElem lj)
        obtain ⟨e, he, ev⟩ := g
        rw [Array.getElem?_toList, Array.getElem?_eq_getElem lj, List.getElem?_map, Array.getElem?_toList, he, ev]
        rfl
      · rw [List.getElem?_eq_none (by rw [Array.length_toList, hacc.1]; omega), List.getElem?_eq_none (by rw [List.length_map, Array.length_toList, wk_size]; omega)]
    rw [ea]
    refine q _ _ fun b o e => ?_
    have lb := Heap.lt_size e
    exact hm.heap b o (by simp only [List.mem_cons, List.not_mem_nil, or_false, not_or]; exact ⟨Nat.ne_of_lt lb, by rw [sz1]; exact Nat.ne_of_lt (Nat.lt_succ_of_lt lb)⟩) (kp b o (Nat.ne_of_lt lb) (up b o (keep1 b o e)))
  have on2 : SetOn w h2 h1.objs.size a es ep t 0 := ⟨⟨0, hI, fun _ => below_zero _ T.ris⟩, o, ho2, hd⟩
  refine wpAny_ite_split (fun _ => ?_) (fun _ => wpAny_pure ⟨plainId_quiet F.plain_extend_loop _, key h2 0 _ on2 (fun b o _ e => e) hS2⟩)
  refine wpAny_bind (wpAny_rule ?_)
  refine wpAny_bind ?_
  show wpAny _ _ (updateSeq s.heap.objs.size (·.push .none) >>= fun _ => updateSeq s.heap.objs.size (·.pop)) _ _ _
  have hS3 := Heap.get?_update_self (Obj.mapSeq (·.push Value.none)) hS2 rfl
  have hS4 := Heap.get?_update_self (Obj.mapSeq (·.pop)) hS3 rfl
  have oth : ∀ b o, b ≠ s.heap.objs.size → h2.get? b = some o → ((h2.update s.heap.objs.size (Obj.mapSeq (·.push Value.none))).update s.heap.objs.size (Obj.mapSeq (·.pop))).get? b = some o := fun b o hb e => (Heap.get?_update_other _ _ (Ne.symm hb)).trans ((Heap.get?_update_other _ _ (Ne.symm hb)).trans e)
  refine wpAny_bind (wpAny_updateSeq (s := { s with heap := h2 }) hS2 rfl (wpAny_updateSeq hS3 rfl (wpAny_pure ⟨plainId_quiet F.plain_extend_loop _, key _ _ _ ⟨⟨0, oth _ _ (Ne.symm nSI) hI, fun _ => below_zero _ T.ris⟩, o, oth _ _ naS ho2, hd⟩ oth hS4⟩) (by show 1 ≤ sizeLine; rw [sizeLine_eq]; omega) (by show 0 ≤ _; exact Nat.zero_le _)) (Nat.zero_le _) (by show 1 ≤ _; rw [sizeLine_eq]; omega))
end
end Sx
namespace Ck
open PySem L2 Sx
theorem perm_map_inv {α β : Type} {f : α → β} {L M : List β} (h : L.Perm M) : ∀ T : List α, M = T.map f → ∃ T' : List α, T'.Perm T ∧ L = T'.map f := by
  induction h with
  | nil => intro T e; exact ⟨T, .refl _, e⟩
  | @cons x l1 l2 _ ih =>
    intro T e
    cases T with
    | nil => cases e
    | cons a T =>
      rw [List.map_cons, List.cons.injEq] at e
      obtain ⟨T', p, e'⟩ := ih T e.2
      exact ⟨a :: T', .cons a p, by rw [List.map_cons, ← e', ← e.1]⟩
  | @swap x y l =>
    intro T e
    match T, e with
    | a :: b :: T, e =>
      simp only [List.map_cons, List.cons.injEq] at e
      exact ⟨b :: a :: T, .swap a b T, by simp only [List.map_cons, ← e.1, ← e.2.1, ← e.2.2]⟩
  | trans _ _ ih1 ih2 =>
    intro T e
    obtain ⟨T1, p1, e1⟩ := ih2 T e
    obtain ⟨T2, p2, e2⟩ := ih1 T1 e1
    exact ⟨T2, p2.trans p1, e2⟩
end Ck
namespace L2
open PySem PySem.Spec PyProof.Rows Ck Sx
section
variable {X : Cx}
theorem places_of {pins : List (Addr × Obj)} {σ : St} {H : Hp} {s : Shared} (I : Inv X pins σ H s) : ∀ {us : List V} {ps : List Pair} {vs : List Value}, Prs H us ps → Vals us vs →
    ∃ Tp : List (Addr × Pair), us = Tp.map (fun e => V.ref e.1) ∧ vs = Tp.map (fun e => Value.ref e.1) ∧ Tp.map (·.2) = ps ∧ ∀ e ∈ Tp, H e.1 = some (.tup [.int e.2.1, .int e.2.2]) ∧ IsPr X.prog X.w s.heap e.1 e.2
  | _, _, _, .nil, .nil => ⟨[], rfl, rfl, rfl, fun e h => by cases h⟩
  | _, _, _, .cons (b := p) r t, .cons rv tv => by
    obtain ⟨a, rfl, ha⟩ := r
    cases rv
    obtain ⟨Tp, e1, e2, e3, e4⟩ := places_of I t tv
    obtain ⟨its, r', tu, _⟩ := I.tuple (SqT.of ha)
    refine ⟨(a, p) :: Tp, by rw [e1]; rfl, by rw [e2]; rfl, by rw [← e3]; rfl, fun e he => ?_⟩
    rcases List.mem_cons.mp he with rfl | he
    · refine ⟨ha, ?_⟩
      cases r' with
      | cons x1 r2 =>
        cases r2 with
        | cons x2 r3 =>
          cases r3
          obtain ⟨t1, rfl⟩ := x1
          obtain ⟨t2, rfl⟩ := x2
          obtain ⟨o, ho, hc, n, hd⟩ := tu
          exact isPr_of ho hc hd
    · exact e4 e he
theorem bb_setP : bootBuiltins "set" = some (.type "set") := by decide +kernel
theorem prv_places {h : Heap} {prog : Program} {w : World} : ∀ {Tp : List (Addr × Pair)}, (∀ e ∈ Tp, IsPr prog w h e.1 e.2) → PrV h (Tp.map fun e => Value.ref e.1) (Tp.map (·.2))
  | [], _ => .nil
  | e :: Tp, hP => by
    refine .cons ?_ (prv_places fun f hf => hP f (List.mem_cons_of_mem _ hf))
    obtain ⟨o, items, n, ho, hc, hd, hi⟩ := hP e (List.mem_cons_self ..)
    obtain ⟨t, u, ei⟩ := items_two hi
    have ea : items = #[.int e.2.1 t, .int e.2.2 u] := by
      cases items
      simp only at ei
      rw [ei]
    subst ea
    exact ⟨e.1, t, u, rfl, o, ho, hc, n, hd⟩
end
end L2
set_option Elab.async false
set_option linter.all false
set_option maxRecDepth 100000
set_option maxHeartbeats 4000000
namespace Sx
open PySem PyProof.Rows
section
variable {prog : Program} {w : World} {A : Around} {E : Value → Shared → Prop} {s : Shared}
structure WSet (h : Heap) (a : Addr) (led : Bool) (es : Array (Int × Value)) : Prop where
  at_ : ∃ o ep t, h.get? a = some o ∧ o.ExactSet ∧ o.data = .set es ep t ∧ Good t es.size ∧ t.led = led ∧ t.plain = true ∧ Wys t es
theorem WSet.at' {h h' : Heap} {a : Addr} {led : Bool} {es : Array (Int × Value)} (S : WSet h a led es) (e : ∀ o, h.get? a = some o → h'.get? a = some o) : WSet h' a led es := by
  obtain ⟨o, ep, t, ho, r⟩ := S.at_
  exact ⟨o, ep, t, e o ho, r⟩
theorem add_any {a x : Addr} {p : Int × Int} {led : Bool} {es : Array (Int × Value)} {Q : Bool → Shared → Prop} (hu : A.units < cLine) (hS : WSet s.heap a led es) (hk : IsPr prog w s.heap x p) {U : List (Addr × (Int × Int))} (hU : es.toList.Perm (U.map el)) (hP : ∀ f ∈ U, IsPr prog w s.heap f.1 f.2) (h64 : es.size < 64) (q0 : p ∈ U.map (·.2) → Q false { s with toks := s.toks + 3 })
    (q : ∀ h' es', p ∉ U.map (·.2) → Heap.SameBut a s.heap h' → WSet h' a led es' → es'.toList.Perm ((thI p, .ref x) :: es.toList) → Q true { s with heap := h', toks := s.toks + 3 }) : wpAny (model prog w) A (setAdd a (.ref x)) Q E s := by
  obtain ⟨o, ep, t, ho, hex, hd, G, ld, ep1, W⟩ := hS.at_
  unfold setAdd
  refine wpAny_holding (wpAny_bind (wpAny_pyHash_tuple hu hk ?_))
  show wpAny (model prog w) A (setAddHashed a (.ref x) (thI p)) Q E { s with toks := s.toks + 3 }
  unfold setAddHashed setAddHashedIn
  refine wpAny_holding (wpAny_bind (wpAny_setState_of (s := { s with toks := s.toks + 3 }) ho hd (fits_of G.tab) ?_))
  have bs : byScan (.ref x) es = false := rfl
  simp only [bs, Bool.false_eq_true, if_false]
  refine wpAny_bind (search_pair (th := thI) (s := { s with toks := s.toks + 3 }) (U := U) hu ho hd G W (fun e he => by
    obtain ⟨f, hf, rfl⟩ := List.mem_map.mp (hU.mem_iff.mp he)
    exact ⟨f, hf, rfl⟩) hP hk (fun ⟨f, hf, e⟩ => wpAny_pure (q0 (List.mem_map.mpr ⟨f, hf, e⟩))) fun j nh nj jm wj => ?_)
  have nU : p ∉ U.map (·.2) := fun z => by
    obtain ⟨f, hf, e⟩ := List.mem_map.mp z
    exact nh (el f) (hU.mem_iff.mpr (List.mem_map_of_mem hf)) f rfl hf e
  simp only
  refine wpAny_bind (wpAny_setState_of (s := { s with toks := s.toks + 3 }) ho hd (fits_of G.tab) ?_)
  obtain ⟨T1, e2, e3, e4, rel⟩ := G.put h64 nj jm
  have W1 := W.put (e := (thI p, Value.ref x)) G.tab wj
  rw [← e2] at W1
  obtain ⟨t1, p1, e1⟩ : ∃ t1 p1, t.put j = (t1, p1) := ⟨_, _, rfl⟩
  rw [e1] at T1 e2 e3 e4 rel W1
  simp only at T1 e2 e3 e4 rel W1
  simp only [e1]
  have pl : t1.plain = true := by rw [e3, ep1]
  have h0 := (below_at t.place j G.tab.ris).1
  have hp1 : p1 ≤ es.size := by rw [e2, ← G.tab.len]; exact h0
  have el1 := insertAt_list es p1 (thI p, Value.ref x) hp1
  have pm1 : (SetTable.insertAt es p1 (thI p, .ref x)).toList.Perm ((thI p, .ref x) :: es.toList) := by rw [el1]; exact insert_perm _ _ _
  have sz1 : (SetTable.insertAt es p1 (thI p, .ref x)).size = es.size + 1 := by rw [← Array.length_toList, pm1.length_eq, List.length_cons, Array.length_toList]
  simp only [pl, if_true]
  refine wpAny_bind (hashBy_pair (s := { s with toks := s.toks + 3 }) hk ?_)
  simp only [if_true]
  refine wpAny_bind (wpAny_storeSet_of (s := { s with toks := s.toks + 3 }) ho hd ?_ (by rw [sz1, sizeLine_eq]; omega))
  have g1 := putSet_get (es' := SetTable.insertAt es p1 (thI p, .ref x)) (t' := t1) ho hd
  have sb1 := Heap.SameBut.update s.heap a (Obj.putSet (SetTable.insertAt es p1 (thI p, .ref x)) t1)
  cases hf : t1.tooFull with
  | false =>
    simp only [Bool.not_false, Bool.true_and, Bool.false_eq_true, if_false]
    refine wpAny_pure (q _ _ nU sb1 ⟨_, ep + 1, t1, g1, hex, rfl, ⟨by rw [sz1]; exact T1, hf⟩, by rw [e4, ld], pl, W1⟩ pm1)
  | true =>
    simp only [Bool.not_false, Bool.true_and, if_true]
    obtain ⟨z1, t', order, r1, G2, l2, pl2, po⟩ := rel hf ((SetTable.insertAt es p1 (thI p, .ref x)).map (·.1)) (by rw [Array.size_map, sz1])
    have sz2 : ((SetTable.insertAt es p1 (thI p, .ref x))).size = es.size + 1 := sz1
    refine wpAny_bind (relay_ok (s := { s with heap := s.heap.update a (Obj.putSet (SetTable.insertAt es p1 (thI p, .ref x)) t1), toks := s.toks + 3 }) g1 rfl (by rw [sz1]; exact T1) (by omega) z1 r1 (by rw [sz1]; exact po) (wpAny_pure ?_))
    have g2 := putSet_get (es' := order.filterMap ((SetTable.insertAt es p1 (thI p, .ref x))[·]?)) (t' := t') g1 rfl
    have fp := filter_perm (es := SetTable.insertAt es p1 (thI p, .ref x)) (order := order) (by rw [sz1]; exact po)
    have sz3 : (order.filterMap ((SetTable.insertAt es p1 (thI p, .ref x))[·]?)).size = es.size + 1 := by rw [← Array.length_toList, fp.length_eq, Array.length_toList, sz1]
    have W2 : Wys t' (order.filterMap ((SetTable.insertAt es p1 (thI p, .ref x))[·]?)) := laid_wys r1 (by rw [sz1]; exact G2.tab)
    exact q _ _ nU (sb1.trans (Heap.SameBut.update _ a _)) ⟨_, ep + 1 + 1, t', g2, hex, rfl, by rw [sz3]; exact G2, by rw [l2, ld], by rw [pl2, ep1], W2⟩ (fp.trans pm1)
end
structure Ded (Tp : List (Addr × (Int × Int))) (i : Nat) (U : List (Addr × (Int × Int))) : Prop where
  sub : ∀ f ∈ U, f ∈ Tp.take i
  nd : (U.map (·.2)).Nodup
  all : ∀ f ∈ Tp.take i, f.2 ∈ U.map (·.2)
  few : U.length ≤ i
theorem Ded.old {Tp : List (Addr × (Int × Int))} {i : Nat} {U : List (Addr × (Int × Int))} {e : Addr × (Int × Int)} (d : Ded Tp i U) (he : Tp[i]? = some e) (z : e.2 ∈ U.map (·.2)) : Ded Tp (i + 1) U := by
  refine ⟨fun f hf => ?_, d.nd, fun f hf => ?_, by have := d.few; omega⟩
  · rw [List.take_add_one]
    exact List.mem_append_left _ (d.sub f hf)
  · rw [List.take_add_one, he] at hf
    rcases List.mem_append.mp hf with hf | hf
    · exact d.all f hf
    · have : f = e := by simpa using hf
      rw [this]; exact z
theorem Ded.new {Tp : List (Addr × (Int × Int))} {i : Nat} {U : List (Addr × (Int × Int))} {e : Addr × (Int × Int)} (d : Ded Tp i U) (he : Tp[i]? = some e) (z : e.2 ∉ U.map (·.2)) : Ded Tp (i + 1) (U ++ [e]) := by
  refine ⟨fun f hf => ?_, ?_, fun f hf => ?_, by have := d.few; rw [List.length_append]; simp; omega⟩
  · rw [List.take_add_one, he]
    rcases List.mem_append.mp hf with hf | hf
    · exact List.mem_append_left _ (d.sub f hf)
    · exact List.mem_append_right _ hf
  · rw [List.map_append, List.nodup_append]
    refine ⟨d.nd, by simp, fun a ha b hb => ?_⟩
    have : b = e.2 := by simpa using hb
    rw [this]
    exact fun h => z (h ▸ ha)
  · rw [List.take_add_one, he] at hf
    rw [List.map_append]
    rcases List.mem_append.mp hf with hf | hf
    · exact List.mem_append_left _ (d.all f hf)
    · have : f = e := by simpa using hf
      rw [this]
      exact List.mem_append_right _ (by simp)
section
variable {prog : Program} {w : World} {A : Around} {R : Result → Shared → Prop} {I : Addr} {fp wr : List Addr} {G : Array GenState → Array GenState → Prop} {n : Nat} {P : Nat → Value → Prop} {St : Nat → Shared → Prop}
theorem update_any (W : WalksS prog w A.in1 I fp wr G n P St) (S : Addr) (hSf : S ∉ fp) (hu : A.in1.units < cLine) (led : Bool) (Tp : List (Addr × (Int × Int))) (hn : Tp.length = n) (hval : ∀ i v, P i v → ∃ e, Tp[i]? = some e ∧ v = .ref e.1)
    (hT : ∀ e ∈ Tp, e.1 ≠ S ∧ e.1 ∉ wr) (n64 : n ≤ 64) :
    ∀ (k i : Nat) (s : Shared) (es : Array (Int × Value)) (U : List (Addr × (Int × Int))), n - i = k → i ≤ n → St i s → (∀ e ∈ Tp, IsPr prog w s.heap e.1 e.2) → WSet s.heap S led es → es.toList.Perm (U.map el) → Ded Tp i U →
      (∀ s' es' U', Moved (S :: wr) G s s' → WSet s'.heap S led es' → es'.toList.Perm (U'.map el) → Ded Tp n U' → R (.ok (.ret .none)) s') →
      codeAny (model prog w) A (.builtin "set.update.loop" ⟨[.ref S, .ref I], []⟩) R s := by
  have hSw : S ∉ wr := fun h => hSf (W.sub _ h)
  have hsub : ∀ b ∈ wr, b ∈ S :: wr := fun b hb => List.mem_cons_of_mem _ hb
  intro k
  induction k with
  | zero =>
    intro i s es U hk hi hst hP hS hp dd hR
    have hin : i = n := by omega
    subst hin
    refine codeAny_builtin F.entry_set_update_loop ?_
    rw [Around.under_plainId F.plain_set_update_loop _]
    show wpAny _ A.in1 (pyNext (.ref I) >>= _) _ _ s
    refine wpAny_bind (W.done s _ _ hst fun s' hm => ?_)
    show wpAny _ A.in1 (ret Value.none) _ _ s'
    exact wpAny_pure (hR s' es U (hm.mono hsub) (hS.at' fun o e => hm.heap S _ hSw e) hp dd)
  | succ k ih =>
    intro i s es U hk hi hst hP hS hp dd hR
    have hlt : i < n := by omega
    refine codeAny_builtin F.entry_set_update_loop ?_
    rw [Around.under_plainId F.plain_set_update_loop _]
    show wpAny _ A.in1 (pyNext (.ref I) >>= _) _ _ s
    refine wpAny_bind (W.item i s _ _ hlt hst fun v s' hv hst' hm => ?_)
    obtain ⟨e, he, rfl⟩ := hval i v hv
    have em := List.mem_of_getElem? he
    have hS' : WSet s'.heap S led es := hS.at' fun o x => hm.heap S _ hSw x
    have hP' : ∀ f ∈ Tp, IsPr prog w s'.heap f.1 f.2 := fun f hf => isPr_at (hP f hf) fun o x => hm.heap _ _ (hT f hf).2 x
    have les : es.size ≤ i := by
      rw [← Array.length_toList, hp.length_eq, List.length_map]
      exact dd.few
    have hPU : ∀ f ∈ U, IsPr prog w s'.heap f.1 f.2 := fun f hf => hP' f (List.mem_of_mem_take (dd.sub f hf))
    show wpAny _ A.in1 (holding [Value.ref e.1] (setAdd S (.ref e.1)) >>= _) _ _ s'
    have keepF : ∀ h', Heap.SameBut S s'.heap h' → ∀ b ∈ fp, ∀ o, s'.heap.get? b = some o → h'.get? b = some o := fun h' sb b hb o x => by
      rw [sb.2 b (fun h : b = S => hSf (by rw [← h]; exact hb))]; exact x
    refine wpAny_bind (wpAny_holding (add_any hu hS' (hP' e em) hp hPU (by omega) (fun z => ?_) fun h' es' nz sb S2 p2 => ?_))
    · refine wpAny_pure ⟨plainId_quiet F.plain_set_update_loop _, ih (i + 1) _ es U (by omega) hlt (W.frame _ s' _ _ hst' (Nat.le_add_right _ _) fun b hb o x => x) hP' hS' hp (dd.old he z) fun s'' es'' U'' hm'' S'' p'' d'' => ?_⟩
      exact hR s'' es'' U'' (Moved.trans W.gtrans ((hm.mono hsub).then_heap (Nat.le_add_right _ _) fun b o hb x => x) hm'') S'' p'' d''
    · refine wpAny_pure ⟨plainId_quiet F.plain_set_update_loop _, ih (i + 1) _ es' (U ++ [e]) (by omega) hlt (W.frame _ s' _ _ hst' (Nat.le_add_right _ _) fun b hb o x => keepF h' sb b hb o x) (fun f hf => isPr_at (hP' f hf) fun o x => (sb.2 _ (hT f hf).1).trans x) S2 ?_ (dd.new he nz) fun s'' es'' U'' hm'' S'' p'' d'' => ?_⟩
      · rw [List.map_append]
        exact (p2.trans (List.Perm.cons _ hp)).trans (List.perm_append_singleton (el e) _).symm
      · refine hR s'' es'' U'' (Moved.trans W.gtrans ((hm.mono hsub).then_heap (Nat.le_add_right _ _) fun b o hb x => ?_) hm'') S'' p'' d''
        rw [sb.2 b (fun h : b = S => hb (by rw [h]; exact List.mem_cons_self))]; exact x
end
section
variable {prog : Program} {w : World} {A : Around} {E : Value → Shared → Prop} {s : Shared}
theorem call_set_any {l : Addr} {items : Array Value} {Tp : List (Addr × (Int × Int))} {Q : Value → Shared → Prop} (hh : A.handled = none) (hu : A.units + 10 < cLine) (hl : s.heap.IsList l items) (hi : items.toList = Tp.map fun e => .ref e.1)
    (hP : ∀ e ∈ Tp, IsPr prog w s.heap e.1 e.2) (n64 : Tp.length ≤ 64)
    (h : ∀ (h' : Heap) (tk : Nat) (es : Array (Int × Value)) (U : List (Addr × (Int × Int))), WSet h' s.heap.objs.size (!byTxt w) es → es.toList.Perm (U.map el) → Ded Tp Tp.length U → (∀ b o, b < s.heap.objs.size → s.heap.get? b = some o → h'.get? b = some o) → Q (.ref s.heap.objs.size) { s with heap := h', toks := tk }) :
    wpAny (model prog w) A (call (.type "set") [.ref l]) Q E s := by
  obtain ⟨c, tl, hmro⟩ := F.called_set.mro
  have hmade := F.called_set.made
  have hsub := F.called_set.sub
  refine wpAny_call (codeAny_of_tree ?_)
  show wpAny _ _ (callAny (.type "set") _) _ _ _
  refine wpAny_pure ⟨Code.quiet_builtin _ (by decide +kernel), codeAny_builtin F.entry_type_call ?_⟩
  rw [Around.under_plain (weight_type_call_type "set" [.ref l] []) rfl]
  have h1 := F.called_set.notType
  have h2 := F.called_set.canCreate
  have hct := F.typeCall_set_1 (.ref l)
  repeat (any_goals (first | assumption | wp_step))
  refine codeAny_mono (set_new (.ref l) (E := E) (Q₁ := fun obj s₁ => obj = .ref s.heap.objs.size ∧ s₁ = { s with heap := s.heap.push { cls := .type "set", dict := none, data := .set #[] 0 (.fresh 0 0 (!byTxt w)) } }) ⟨rfl, rfl⟩) fun r s₁ hr => ?_
  cases r with
  | error e => exact hr
  | ok fl =>
    cases fl with
    | ret obj =>
      obtain ⟨rfl, rfl⟩ := hr
      have hS : (s.heap.push { cls := .type "set", dict := none, data := .set #[] 0 (.fresh 0 0 (!byTxt w)) }).get? s.heap.objs.size = some { cls := .type "set", dict := none, data := .set #[] 0 (.fresh 0 0 (!byTxt w)) } := Heap.get?_push_size _ rfl
      have hT : Shared.TypeIs { s with heap := s.heap.push { cls := .type "set", dict := none, data := .set #[] 0 (.fresh 0 0 (!byTxt w)) } } (.ref s.heap.objs.size) "set" := ⟨_, hS, rfl⟩
      have hli := F.called_set.init.lookup
      have hbi := F.called_set.init.bind (.ref s.heap.objs.size)
      repeat (any_goals (first | assumption | wp_step))
      refine codeAny_mono (codeAny_call_builtin (R := wants (fun r s₂ => r = .none ∧ ∃ h' tk es U, s₂ = { s with heap := h', toks := tk } ∧ WSet h' s.heap.objs.size (!byTxt w) es ∧ es.toList.Perm (List.map el U) ∧ Ded Tp Tp.length U ∧
          (∀ b o, b < s.heap.objs.size → s.heap.get? b = some o → h'.get? b = some o)) E) F.called_set.init.plain F.entry_set_init (check_set_init_1 hT ?_)) fun r₂ s₂ hr₂ => ?_
      · obtain ⟨ol, hol, hcl, nl, hdl⟩ := hl
        obtain ⟨ocls, odict, odata, oslots⟩ := ol
        simp only at hcl hdl
        subst hcl; subst hdl
        have hol' : (s.heap.push { cls := .type "set", dict := none, data := .set #[] 0 (.fresh 0 0 (!byTxt w)) }).get? l = some { cls := .type "list", dict := odict, data := .seq items nl, slots := oslots } := Heap.get?_push_of_some _ hol
        have hsls := F.sub_list_set
        have hslf := F.sub_list_frozenset
        have hne : (Value.type "list" == Value.type "dict") = false := by decide
        have hl1 : (s.heap.push { cls := .type "set", dict := none, data := .set #[] 0 (.fresh 0 0 (!byTxt w)) }).IsList l items := ⟨_, hol', rfl, nl, rfl⟩
        unfold Builtin.«set.__init__» noKeywords Builtin.Frozenset.updateFrom
        generalize hPI : pyIter = PI
        wp_walk
        subst hPI
        refine wpAny_pyIter_list hl1 ?_
        refine wpAny_bind (wpAny_runValue ?_)
        have hlS : l < s.heap.objs.size := Heap.lt_size hol
        have hh3 : A.in1.in1.in1.handled = none := by simp [hh]
        have hneI : l ≠ (s.heap.push { cls := .type "set", dict := none, data := .set #[] 0 (.fresh 0 0 (!byTxt w)) }).objs.size := by
          rw [Heap.size_push]; exact Nat.ne_of_lt (Nat.lt_succ_of_lt hlS)
        have hSf : s.heap.objs.size ∉ [(s.heap.push { cls := .type "set", dict := none, data := .set #[] 0 (.fresh 0 0 (!byTxt w)) }).objs.size, l] := by
          rw [Heap.size_push]; simp only [List.mem_cons, List.mem_singleton, List.not_mem_nil, or_false, not_or]
          exact ⟨Nat.ne_of_lt (Nat.lt_succ_self _), Nat.ne_of_gt hlS⟩
        have hlt : ∀ e ∈ Tp, e.1 < s.heap.objs.size := fun e he => by
          obtain ⟨o, _, _, ho, _⟩ := hP e he
          exact Heap.lt_size ho
        have hsz : items.size = Tp.length := by rw [← Array.length_toList, hi, List.length_map]
        refine update_any (R := _) ((Walks.list hh3 _ l hneI items).toS) s.heap.objs.size hSf ?hu (!byTxt w) Tp hsz.symm (fun i v hv => ?hval) (fun e he => ⟨Nat.ne_of_lt (hlt e he), ?hw⟩) (by omega) (items.size - 0) 0 _ #[] [] (by omega) (Nat.zero_le _)
          ⟨⟨_, Heap.get?_push_size _ rfl, rfl, rfl⟩, (hl1.push _)⟩ (fun e he => isPr_at (hP e he) fun o x => Heap.get?_push_of_some _ (Heap.get?_push_of_some _ x)) ?hS0 (List.Perm.refl _) ⟨fun f hf => (by cases hf), List.nodup_nil, fun f hf => (by cases hf), Nat.le_refl _⟩ ?hR
        case hu => simp only [Around.in1_units]; omega
        case hval =>
          have e1 : items.toList[i]? = some v := by rw [Array.getElem?_toList]; exact hv
          rw [hi, List.getElem?_map] at e1
          cases g : Tp[i]? with
          | none => rw [g] at e1; cases e1
          | some e => rw [g] at e1; exact ⟨e, rfl, (Option.some.inj e1).symm⟩
        case hw =>
          rw [Heap.size_push]
          simp only [List.mem_singleton]
          exact Nat.ne_of_lt (Nat.lt_succ_of_lt (hlt e he))
        case hS0 =>
          exact ⟨_, 0, _, Heap.get?_push_of_some _ hS, ⟨rfl, rfl, rfl⟩, rfl, Good.fresh 0 0 _, rfl, rfl, Wys.fresh 0 0 _⟩
        case hR =>
          intro s' es' U' hm hS' hp' dd'
          rw [hsz] at dd'
          obtain ⟨h', g', d', tk', os'⟩ := s'
          have eg : g' = s.gens := hm.gens
          have ed : d' = s.drawn := hm.drawn
          have eo : os' = s.os := hm.os
          subst eg; subst ed; subst eo
          show wpAny _ _ _ _ _ _
          refine wpAny_pure ?_
          show wpAny _ _ (ret Value.none) _ _ _
          refine wpAny_pure ⟨rfl, h', tk', es', U', rfl, hS', hp', dd', fun b o hb e => ?_⟩
          have hb1 : b ≠ s.heap.objs.size := Nat.ne_of_lt hb
          have hb2 : b ≠ (s.heap.push { cls := .type "set", dict := none, data := .set #[] 0 (.fresh 0 0 (!byTxt w)) }).objs.size := by
            rw [Heap.size_push]; exact Nat.ne_of_lt (Nat.lt_succ_of_lt hb)
          exact hm.heap b o (by simp only [List.mem_cons, List.mem_singleton, List.not_mem_nil, or_false, not_or]; exact ⟨hb1, hb2⟩) (Heap.get?_push_of_some _ (Heap.get?_push_of_some _ e))
      · cases r₂ with
        | error e => exact hr₂
        | ok fl₂ =>
          cases fl₂ with
          | ret r =>
            obtain ⟨rfl, h', tk, es, U, rfl, hS', hp', dd', hk'⟩ := hr₂
            repeat (any_goals (first | assumption | wp_step))
            exact h _ _ _ _ hS' hp' dd' hk'
          | _ => exact hr₂.elim
    | _ => exact hr.elim
end
end Sx
namespace L2
open PySem PySem.Spec PyProof.Rows Ck Sx
section
variable {X : Cx}
noncomputable def tSSd (ta : TA) : TE := fun σ H Q => ta σ H fun vs H1 => ∃ (l : Addr) (ps : List Pair), vs = [.ref l] ∧ PLs H1 l ps ∧ ps.length < 64 ∧
  ∀ (q : Addr) (qs : List Pair) (H' : Hp), Same H1 H' → H1 q = none → PLs H' q qs → qs.Nodup → (∀ x, x ∈ qs ↔ x ∈ ps) → qs.Pairwise leP → Q (.ref q) H'
theorem pe_sortsetD {a : Expr} {ta : TA} {p p2 pos pos2 : Pos} (hc : X.calm = true) (hu : X.A.units + 100 < cLine) (hgl : Gl X "sorted") (hml : X.mg "sorted" = none) (hg : Gl X "set") (hm : X.mg "set" = none) (ha : PA X [a] ta) (hs : starEach [a] X.env = [(false, eval a X.env)] := by rfl)
    (he : starEach [.Call (.Name "set" p) [a] [] pos] X.env = [(false, eval (.Call (.Name "set" p) [a] [] pos) X.env)] := by rfl) :
    PE X (.Call (.Name "sorted" p2) [.Call (.Name "set" p) [a] [] pos] [] pos2) (tSSd ta) := by
  intro pins s σ H Q I h
  refine wpAny_Call_Name_kw (ld_blt I hgl hml bb_sorted ?_ (by decide) (by decide))
  refine PyProof.Rows.callWith_builtin1 ?_ he rfl
  rw [he]
  show wpAny _ _ (spliced ((false, eval (.Call (.Name "set" p) [a] [] pos) X.env) :: backTo pos2 [])) _ _ s
  refine Calls.spliced_cons (Call_ (ld_blt I hg hm bb_setP (PyProof.Rows.callWith_type1 (thn (ha pos pins s σ H _ I h) fun us s1 ⟨vs, H1, I1, r1, q1⟩ => ?_) hs rfl)))
  obtain ⟨l, ps, e, ⟨ws, hl, pr⟩, h64, q⟩ := q1
  subst e
  obtain ⟨u, rfl, ru⟩ := vals1 r1
  cases ru
  obtain ⟨its, r', pl, hz⟩ := I1.list (SqL.of hl)
  obtain ⟨Tp, e1, e2, e3, e4⟩ := places_of I1 pr r'
  have lT : Tp.length = ps.length := by rw [← e3, List.length_map]
  refine call_set_any (I.ok.hd hc) (show X.A.units + 10 < cLine by omega) pl.isList (Tp := Tp) (by simpa using e2) (fun e he => (e4 e he).2) (by omega) fun h' tk es U S pm dd kp => Calls.spliced_nil ?_
  obtain ⟨o, ep, t, ho, hex, hd, G, ld, plain, _⟩ := S.at_
  have lU := dd.few
  have inU : ∀ f ∈ U, f ∈ Tp := fun f hf => by
    have := dd.sub f hf
    rwa [List.take_length] at this
  have les : es.size = U.length := by rw [← Array.length_toList, pm.length_eq, List.length_map]
  refine Calls.call_function_entry kind_sorted plain_sorted entry_sorted (args_sorted1 _) ?_
  unfold Builtin.«sorted»
  refine wpAny_bind (m := checkCount "sorted" 1 1 _) (wpAny_pure (wpAny_bind (collect_set (s := { s1 with heap := h', toks := tk }) (A := X.A.in1) (I.ok.hd hc) ho hex hd G.tab plain ld (by omega) fun h2 tk2 kp2 => ?_)))
  obtain ⟨Tq, pq, eq⟩ := perm_map_inv ((wk_perm X.w s1.heap.objs.size ep es).trans pm) U rfl
  have ev : (wk X.w s1.heap.objs.size ep es).toList.map (·.2) = Tq.map fun e => Value.ref e.1 := by
    rw [eq, List.map_map]
    rfl
  rw [ev]
  have lq : Tq.length = U.length := pq.length_eq
  have lv : (Tq.map fun e => Value.ref e.1).length = Tq.length := List.length_map _
  have keep : ∀ b o, s1.heap.get? b = some o → h2.get? b = some o := fun b o e => kp2 b o (kp b o (Heap.lt_size e) e)
  refine wpAny_bind (wpAny_newList ?_ (by rw [lv, sizeLine_eq]; omega))
  have hoL : (h2.push (seqObj "list" (Tq.map fun e => Value.ref e.1).toArray 0)).get? h2.objs.size = some (seqObj "list" (Tq.map fun e => Value.ref e.1).toArray 0) := Heap.get?_push_size _ rfl
  have up : ∀ b o, h2.get? b = some o → (h2.push (seqObj "list" (Tq.map fun e => Value.ref e.1).toArray 0)).get? b = some o := fun b o e => Heap.get?_push_of_some _ e
  show wpAny _ _ _ _ _ { s1 with heap := h2.push (seqObj "list" (Tq.map fun e => Value.ref e.1).toArray 0), toks := tk2 }
  have hPq : ∀ e ∈ Tq, IsPr X.prog X.w s1.heap e.1 e.2 := fun e he => (e4 e (inU e (pq.mem_iff.mp he))).2
  have pv := prv_places hPq
  have hz2 : s1.heap.objs.size ≤ h2.objs.size := Nat.le_of_lt (Heap.lt_size (kp2 _ _ ho))
  refine wpAny_bind (wpAny_holding (wpAny_call_entry slot_list_sort ⟨_, hoL, rfl⟩ entry_list_sort (sort_ask (s := { s1 with heap := h2.push (seqObj "list" (Tq.map fun e => Value.ref e.1).toArray 0), toks := tk2 }) (ordP (Tq.map (·.2))) hoL (by rw [lv]; omega)
    (fun h6 old h2' => asksP (s1 := { s1 with heap := h6, toks := tk2 }) (pv.mono fun b o e => old b o (fun z => by
      have lt := Heap.lt_size (keep b o e)
      rw [z] at lt
      exact Nat.lt_irrefl _ lt) (up b o (keep b o e))) h2') fun g ok ri => ⟨_, rfl, ?_⟩) (args_list_sort _)))
  refine wpAny_pure ⟨_, rfl, ?_⟩
  obtain ⟨e, hat⟩ := sortedHeap_at (out := (outOf (Tq.map fun e => Value.ref e.1) g).toArray) hoL
  have hb : ∀ i ∈ g.toList, i < Tq.length := fun i hi => by
    have := List.mem_range.mp (ok.mem_iff.mp hi)
    rwa [lv] at this
  have lg : g.toList.length = Tq.length := by rw [ok.length_eq, List.length_range, lv]
  have rq : Vals (Tq.map fun e => V.ref e.1) (Tq.map fun e => Value.ref e.1) := by
    clear hoL up hPq pv eq ev pq lq lv ok ri hat hb lg
    induction Tq with
    | nil => exact .nil
    | cons a T ih => exact .cons rfl ih
  have prq : Prs H1 (Tq.map fun e => V.ref e.1) (Tq.map (·.2)) := by
    have all : ∀ e ∈ Tq, H1 e.1 = some (.tup [.int e.2.1, .int e.2.2]) := fun e he => (e4 e (inU e (pq.mem_iff.mp he))).1
    clear hoL up hPq pv eq ev pq lq lv ok ri hat hb lg rq
    induction Tq with
    | nil => exact .nil
    | cons a T ih => exact .cons ⟨a.1, rfl, all a (List.mem_cons_self ..)⟩ (ih fun e he => all e (List.mem_cons_of_mem _ he))
  have vs2 : Vals (g.toList.map fun i => (Tq.map fun e => V.ref e.1).getD i V.non) (outOf (Tq.map fun e => Value.ref e.1) g) := pairs_take rq V.non Value.none g.toList (fun i hi => by rw [List.length_map]; exact hb i hi)
  have pr2 : Prs H1 (g.toList.map fun i => (Tq.map fun e => V.ref e.1).getD i V.non) (g.toList.map fun i => (Tq.map (·.2)).getD i (0, 0)) := pairs_take prq V.non (0, 0) g.toList (fun i hi => by rw [List.length_map]; exact hb i hi)
  have fr : H1 h2.objs.size = none := I1.hok.fresh hz2
  have sz2 : (g.toList.map fun i => (Tq.map fun e => V.ref e.1).getD i V.non).length ≤ sizeLine := by rw [List.length_map, lg]; exact sz (by omega)
  refine ⟨.ref h2.objs.size, _, I1.laid (t' := tk2) (o := .lst (g.toList.map fun i => (Tq.map fun e => V.ref e.1).getD i V.non)) (fun b u x => ?_) hz2 ⟨sz2, outOf (Tq.map fun e => Value.ref e.1) g, e, vs2, by simpa [seqObj] using hat⟩, rfl, ?_⟩
  · have lt := Heap.lt_size (keep b u x)
    rw [sortedHeap_old (Nat.ne_of_lt lt) (Heap.lt_size (up b u (keep b u x)))]
    exact up b u (keep b u x)
  have pmq : (Tq.map (·.2)).Perm (U.map (·.2)) := pq.map _
  have pmf : (g.toList.map fun i => (Tq.map (·.2)).getD i (0, 0)).Perm (U.map (·.2)) := (take_perm (0, 0) (Tq.map (·.2)) (by rw [List.length_map, ← lv]; exact ok)).trans pmq
  refine q _ _ _ (Same.new (Same.refl H1) fr _) fr ⟨_, upd_same, pr2.updN fr _⟩ (pmf.nodup_iff.mpr dd.nd) (fun x => pmf.mem_iff.trans ⟨fun z => ?_, fun z => ?_⟩) ?_
  · obtain ⟨f, hf, rfl⟩ := List.mem_map.mp z
    rw [← e3]
    exact List.mem_map_of_mem (inU f hf)
  · rw [← e3] at z
    obtain ⟨f, hf, rfl⟩ := List.mem_map.mp z
    exact dd.all f (by rw [List.take_length]; exact hf)
  rw [List.pairwise_map]
  have gs : g.size = Tq.length := by rw [← lg]; simp
  refine List.pairwise_iff_getElem.mpr fun i j hi hj hij => ?_
  have := ri i j (by omega) (by rw [lv, ← gs]; simpa using hj)
  rw [ltP_no] at this
  unfold gA at this
  simpa [show i < g.size by simpa using hi, show j < g.size by simpa using hj] using this
end
end L2
set_option Elab.async false
set_option linter.all false
set_option maxRecDepth 100000
set_option maxHeartbeats 4000000
namespace Lg
open PySem PyProof.Rows
section
variable {prog : Program} {w : World} {A : Around} {E : Value → Shared → Prop} {s : Shared}
end
noncomputable abbrev key (p : Keyed) : Int := numOf p.1
variable {a b out : Array Keyed} {ia ib : Nat}
section
variable {prog : Program} {w : World} {A : Around} {E : Value → Shared → Prop} {s : Shared}
end
variable {na nb : Nat}
section
variable {prog : Program} {w : World} {A : Around} {E : Value → Shared → Prop} {s : Shared}
end
section
variable {prog : Program} {w : World} {A : Around} {E : Value → Shared → Prop} {s : Shared}
end
section
variable {prog : Program} {w : World} {A : Around} {E : Value → Shared → Prop} {s : Shared} {a₀ : Array Keyed} {P : Array (Nat × Nat × Nat)}
end
section
variable {prog : Program} {w : World} {A : Around} {E : Value → Shared → Prop} {s : Shared} {a₀ : Array Keyed} {P : Array (Nat × Nat × Nat)}
end
section
variable {prog : Program} {w : World} {A : Around} {E : Value → Shared → Prop} {s : Shared} {a₀ : Array Keyed}
end
section
variable {prog : Program} {w : World} {A : Around} {E : Value → Shared → Prop} {s : Shared}
end
end Lg
namespace L2
open PySem PySem.Spec PyProof.Rows
end L2
set_option Elab.async false
set_option linter.all false
set_option maxRecDepth 100000
set_option maxHeartbeats 4000000
namespace L2
open PySem PySem.Spec PyProof.Rows
section
variable {X : Cx} {tg : Expr}
end
section
variable {X : Cx} {a b c d : Expr} {ta tb tc td : TE} {pos : Pos}
noncomputable def tCh3 (r1 r2 r3 : R2) (ta tb tc td : TE) : TE := fun σ H Q => ta σ H fun x H1 => tb σ H1 fun y H2 => r1 x y H2 fun z H3 => ∃ k, z = .bl k ∧
  (if k = true then tc σ H3 fun w' H4 => r2 y w' H4 fun z' H5 => ∃ k', z' = .bl k' ∧ (if k' = true then td σ H5 fun v' H6 => r3 w' v' H6 Q else Q (.bl false) H5) else Q (.bl false) H3)
theorem pt_ch3 {o1 o2 o3 : CmpOp} {r1 r2 r3 : R2} (h1 : OpR X (compareOp o1) r1) (h2 : OpR X (compareOp o2) r2) (h3 : OpR X (compareOp o3) r3) (ha : PE X a ta) (hb : PE X b tb) (hc : PE X c tc) (hd : PE X d td)
    (hm : lastMarks [o1, o2, o3] [b, c, d] = false := by with_unfolding_all rfl) : PT X (.Compare a [o1, o2, o3] [b, c, d] pos) (tTest (tCh3 r1 r2 r3 ta tb tc td)) := by
  intro pins s σ H Q I h
  refine isTrue_chain (thn (ha pins s σ H _ I h) fun v s1 ⟨x, H1, I1, x1, q1⟩ => test_link (thn (hb pins s1 σ H1 _ I1 q1) fun u s2 ⟨y, H2, I2, x2, q2⟩ =>
    thn (h1 pins s2 σ H2 x y v u _ I2 x1 x2 q2) fun e s3 ⟨z, H3, I3, x3, k, ek, q3⟩ => ?_)) hm
  subst ek
  cases x3
  refine wpAny_truthy_bool ?_
  cases k with
  | false =>
    obtain ⟨k', e', q'⟩ := q3
    cases e'
    exact ite_ff ⟨H3, I3, q'⟩
  | true =>
    refine ite_tt (test_link (thn (hc pins s3 σ H3 _ I3 q3) fun w' s4 ⟨z', H4, I4, x4, q4⟩ => thn (h2 pins s4 σ H4 y z' u w' _ I4 x2 x4 q4) fun d' s5 ⟨z2, H5, I5, x5, k2, e2, q5⟩ => ?_))
    subst e2
    cases x5
    refine wpAny_truthy_bool ?_
    cases k2 with
    | false =>
      obtain ⟨k', e', q'⟩ := q5
      cases e'
      exact ite_ff ⟨H5, I5, q'⟩
    | true =>
      refine ite_tt (test_last (thn (hd pins s5 σ H5 _ I5 q5) fun w2 s6 ⟨z3, H6, I6, x6, q6⟩ => thn (h3 pins s6 σ H6 z' z3 w' w2 _ I6 x4 x6 q6) fun d2 s7 ⟨z4, H7, I7, x7, k3, e3, q7⟩ => ?_))
      subst e3
      cases x7
      exact wpAny_truthy_bool ⟨H7, I7, q7⟩
end
end L2
namespace Ck
open PySem L2
theorem EqD.prs {K : PySem.W.Frag} {H : Hp} {a b : Addr} {ps qs : List Pair} (ne : a ≠ b) (ha : PLs H a ps) (hb : PLs H b qs) : EqD K H 2 (.ref a) (.ref b) (decide (ps = qs)) := by
  obtain ⟨xs, ea, lx, px⟩ := ha.len
  obtain ⟨ys, eb, ly, py⟩ := hb.len
  by_cases hl : ps.length = qs.length
  · have h := EqD.lst (K := K) (n := 1) (e := fun j => decide (ps.getD j (0, 0) = qs.getD j (0, 0))) ne (SqL.of ea) (SqL.of eb) (by omega) (fun j x y hx hy => by
      obtain ⟨p, t, hp, rfl, ht⟩ := px.get hx
      obtain ⟨r, u, hr, rfl, hu⟩ := py.get hy
      rw [List.getD_eq_getElem?_getD, List.getD_eq_getElem?_getD, hp, hr]
      show EqD K H 1 _ _ (decide (p = r))
      by_cases e : t = u
      · subst e
        have : p = r := by
          rw [ht] at hu
          injection hu with hu; injection hu with hu
          injection hu with h1 h2; injection h2 with h2 _
          injection h1 with h1; injection h2 with h2
          exact Prod.ext h1 h2
        rw [decide_eq_true this]
        exact EqD.same
      · have := EqD.two (K := K) (n := 0) e ht hu
        have e2 : decide (p = r) = (decide (p.1 = r.1) && decide (p.2 = r.2)) := by
          rw [Bool.eq_iff_iff, Bool.and_eq_true, decide_eq_true_iff, decide_eq_true_iff, decide_eq_true_iff]
          exact ⟨fun z => by rw [z]; exact ⟨rfl, rfl⟩, fun z => Prod.ext z.1 z.2⟩
        rw [e2]
        exact this)
    have e : (List.range xs.length).all (fun j => decide (ps.getD j (0, 0) = qs.getD j (0, 0))) = decide (ps = qs) := by
      rw [Bool.eq_iff_iff, List.all_eq_true, decide_eq_true_iff]
      constructor
      · intro h
        refine List.ext_getElem hl fun k h1 h2 => ?_
        have := of_decide_eq_true (h k (List.mem_range.mpr (by omega)))
        rw [List.getD_eq_getElem?_getD, List.getD_eq_getElem?_getD, List.getElem?_eq_getElem h1, List.getElem?_eq_getElem h2] at this
        exact this
      · intro h k _
        rw [h]
        exact decide_eq_true rfl
    rw [e] at h
    exact h
  · have : decide (ps = qs) = false := decide_eq_false fun z => hl (by rw [z])
    rw [this]
    exact EqD.lstN ne (SqL.of ea) (SqL.of eb) (by omega)
theorem Prs.erase {H : Hp} : ∀ {xs : List V} {ps : List Pair} (i : Nat), Prs H xs ps → Prs H (xs.eraseIdx i) (ps.eraseIdx i)
  | _, _, _, .nil => .nil
  | _, _, 0, .cons r t => t
  | _, _, i + 1, .cons r t => .cons r (Prs.erase i t)
theorem Prs.ins {H : Hp} {xs : List V} {ps : List Pair} {t : Addr} {p : Pair} (g : Int) (h : Prs H xs ps) (ht : H t = some (.tup [.int p.1, .int p.2])) : ∃ qs, Prs H (insAt xs g (.ref t)) qs ∧ qs.length = ps.length + 1 := by
  have l := h.length
  refine ⟨ps.take (insK xs.length g) ++ p :: ps.drop (insK xs.length g), (h.take _).app (.cons ⟨t, rfl, ht⟩ (h.drop _)), ?_⟩
  rw [List.length_append, List.length_cons, List.length_take, List.length_drop]
  omega
end Ck
namespace Ck
open PySem L2
noncomputable def crsP (p r : Pair) : Bool := decide (p.1 < r.1) && (decide (r.1 < p.2) && decide (p.2 < r.2))
noncomputable def crossB (ps : List Pair) : Bool := ps.any fun p => ps.any (crsP p)
theorem crossB_iff {ps : List Pair} : crossB ps = true ↔ ∃ p ∈ ps, ∃ r ∈ ps, p.1 < r.1 ∧ r.1 < p.2 ∧ p.2 < r.2 := by
  unfold crossB
  rw [List.any_eq_true]
  constructor
  · rintro ⟨p, hp, h⟩
    obtain ⟨r, hr, h⟩ := List.any_eq_true.mp h
    unfold crsP at h
    exact ⟨p, hp, r, hr, by simpa using h⟩
  · rintro ⟨p, hp, r, hr, h⟩
    exact ⟨p, hp, List.any_eq_true.mpr ⟨r, hr, by unfold crsP; simpa using h⟩⟩
end Ck
set_option Elab.async false
set_option linter.all false
set_option maxRecDepth 100000
set_option maxHeartbeats 4000000
namespace Ck
open PySem L2
noncomputable def Crs (p q : Pair) : Prop := p.1 < q.1 ∧ q.1 < p.2 ∧ p.2 < q.2
noncomputable def NC (ps : List Pair) : Prop := ∀ p ∈ ps, ∀ q ∈ ps, ¬ Crs p q
theorem nc_cross {ps : List Pair} : crossB ps = false ↔ NC ps := by
  constructor
  · intro h p hp q hq c
    have : crossB ps = true := crossB_iff.mpr ⟨p, hp, q, hq, c.1, c.2.1, c.2.2⟩
    rw [h] at this
    cases this
  · intro h
    cases e : crossB ps with
    | false => rfl
    | true =>
      obtain ⟨p, hp, q, hq, c⟩ := crossB_iff.mp e
      exact absurd c (h p hp q hq)
noncomputable def Ct (c : Int) (p : Pair) : Prop := 0 ≤ p.1 ∧ p.1 + 1 < p.2 ∧ p.2 < c ∧ ¬ (p.1 = 0 ∧ p.2 = c - 1)
structure IsFl (c : Int) (ps : List Pair) : Prop where
  c2 : 2 ≤ c
  len : (ps.length : Int) = if c - 3 > 0 then c - 3 else 0
  ct : ∀ p ∈ ps, Ct c p
  nc : NC ps
  nd : ps.Nodup
  ris : ps.Pairwise leP
noncomputable def nm (x y : Int) : Pair := if x < y then (x, y) else (y, x)
end Ck
set_option Elab.async false
set_option linter.all false
set_option maxRecDepth 100000
set_option maxHeartbeats 4000000
namespace Ck
open PySem L2
noncomputable def cutB (c : Int) (p : Pair) : Bool := decide (0 ≤ p.1) && (decide (p.1 < p.2 - 1) && (decide (p.2 < c) && !(decide (p.1 = 0) && decide (p.2 = c - 1))))
noncomputable def stC (c : Int) (ps : List Pair) (k : Nat) : Bool := cutB c (ps.getD k (0, 0)) && (decide (k = 0) || ltP (ps.getD (k - 1) (0, 0)) (ps.getD k (0, 0)))
noncomputable def lenB (c : Int) (n : Nat) : Bool := decide (2 ≤ c) && decide ((n : Int) = if c - 3 > 0 then c - 3 else 0)
noncomputable def flB (c : Int) (ps : List Pair) : Bool := lenB c ps.length && ((List.range ps.length).all (stC c ps) && !crossB ps)
theorem cutB_iff {c : Int} {p : Pair} : cutB c p = true ↔ Ct c p := by
  unfold cutB Ct
  simp only [Bool.and_eq_true, decide_eq_true_iff, Bool.not_eq_true', Bool.and_eq_false_iff, decide_eq_false_iff_not]
  omega
theorem flB_no {c : Int} {ps : List Pair} (h : lenB c ps.length = false) : flB c ps = false := by
  unfold flB
  rw [h, Bool.false_and]
theorem flB_at {c : Int} {ps : List Pair} {k : Nat} (hk : k < ps.length) (h : stC c ps k = false) : flB c ps = false := by
  unfold flB
  have : (List.range ps.length).all (stC c ps) = false := List.all_eq_false.mpr ⟨k, List.mem_range.mpr hk, by rw [h]; decide⟩
  rw [this, Bool.false_and, Bool.and_false]
theorem ltP_trans {p q r : Pair} (h1 : ltP p q = true) (h2 : ltP q r = true) : ltP p r = true := by
  unfold ltP at *
  simp only [Bool.or_eq_true, Bool.and_eq_true, decide_eq_true_iff] at *
  omega
theorem ltP_le {p q : Pair} (h : ltP p q = true) : leP p q ∧ p ≠ q := by
  unfold ltP at h
  unfold leP
  simp only [Bool.or_eq_true, Bool.and_eq_true, decide_eq_true_iff] at h
  refine ⟨by omega, fun e => ?_⟩
  subst e
  omega
theorem le_ltP {p q : Pair} (h : leP p q) (n : p ≠ q) : ltP p q = true := by
  unfold ltP
  unfold leP at h
  simp only [Bool.or_eq_true, Bool.and_eq_true, decide_eq_true_iff]
  by_cases e : p.1 = q.1
  · by_cases e2 : p.2 = q.2
    · exact absurd (Prod.ext e e2) n
    · omega
  · omega
theorem rise_of {c : Int} {ps : List Pair} (h : (List.range ps.length).all (stC c ps) = true) : ps.Pairwise fun p q => ltP p q = true := by
  have st : ∀ k, 0 < k → k < ps.length → ltP (ps.getD (k - 1) (0, 0)) (ps.getD k (0, 0)) = true := fun k h0 hk => by
    have := List.all_eq_true.mp h k (List.mem_range.mpr hk)
    unfold stC at this
    rw [Bool.and_eq_true, Bool.or_eq_true, decide_eq_true_iff] at this
    rcases this.2 with z | z
    · omega
    · exact z
  have all : ∀ j i, i < j → j < ps.length → ltP (ps.getD i (0, 0)) (ps.getD j (0, 0)) = true := by
    intro j
    induction j with
    | zero => intro i hi; omega
    | succ j ih =>
      intro i hi hj
      have s := st (j + 1) (by omega) hj
      rw [Nat.add_sub_cancel] at s
      by_cases e : i = j
      · rw [e]; exact s
      · exact ltP_trans (ih i (by omega) (by omega)) s
  refine List.pairwise_iff_getElem.mpr fun i j hi hj hij => ?_
  have := all j i hij hj
  rw [List.getD_eq_getElem?_getD, List.getD_eq_getElem?_getD, List.getElem?_eq_getElem hi, List.getElem?_eq_getElem hj] at this
  exact this
theorem flB_mix {c : Int} {ps qs : List Pair} (nd : qs.Nodup) (mm : ∀ x, x ∈ qs ↔ x ∈ ps) (rs : qs.Pairwise leP) (ne : ps ≠ qs) : flB c ps = false := by
  cases h : flB c ps with
  | false => rfl
  | true =>
    unfold flB at h
    rw [Bool.and_eq_true, Bool.and_eq_true] at h
    have r := rise_of h.2.1
    have n2 : ps.Nodup := r.imp fun z => (ltP_le z).2
    have pm : ps.Perm qs := (List.perm_ext_iff_of_nodup n2 nd).mpr fun x => (mm x).symm
    exact absurd (ris_uniq (r.imp fun z => (ltP_le z).1) rs pm) ne
theorem flB_rest {c : Int} {ps : List Pair} (nd : ps.Nodup) (rs : ps.Pairwise leP) (l : lenB c ps.length = true) : flB c ps = (!crossB ps && ps.all (cutB c)) := by
  have e : (List.range ps.length).all (stC c ps) = ps.all (cutB c) := by
    rw [Bool.eq_iff_iff, List.all_eq_true, List.all_eq_true]
    constructor
    · intro h p hp
      obtain ⟨k, hk⟩ := List.getElem?_of_mem hp
      have := h k (List.mem_range.mpr (List.getElem?_eq_some_iff.mp hk).1)
      unfold stC at this
      rw [Bool.and_eq_true, List.getD_eq_getElem?_getD, hk] at this
      exact this.1
    · intro h k hk
      have hk := List.mem_range.mp hk
      unfold stC
      rw [Bool.and_eq_true, Bool.or_eq_true, decide_eq_true_iff]
      refine ⟨?_, ?_⟩
      · rw [List.getD_eq_getElem?_getD, List.getElem?_eq_getElem hk]
        exact h _ (List.getElem_mem hk)
      · by_cases z : k = 0
        · exact .inl z
        · refine .inr ?_
          have k1 : k - 1 < ps.length := by omega
          rw [List.getD_eq_getElem?_getD, List.getD_eq_getElem?_getD, List.getElem?_eq_getElem hk, List.getElem?_eq_getElem k1]
          exact le_ltP (List.pairwise_iff_getElem.mp rs _ _ k1 hk (by omega)) (List.pairwise_iff_getElem.mp nd _ _ k1 hk (by omega))
  unfold flB
  rw [l, e, Bool.true_and, Bool.and_comm]
theorem IsFl.flB {c : Int} {ps : List Pair} (h : IsFl c ps) : flB c ps = true := by
  have l : lenB c ps.length = true := by
    unfold lenB
    rw [Bool.and_eq_true, decide_eq_true_iff, decide_eq_true_iff]
    exact ⟨h.c2, h.len⟩
  rw [flB_rest h.nd h.ris l, nc_cross.mpr h.nc]
  exact List.all_eq_true.mpr fun p hp => cutB_iff.mpr (h.ct p hp)
theorem flB_snoc (c : Int) (ps : List Pair) : Ck.flB c (ps ++ [(0, 0)]) = false := by
  refine flB_at (k := ps.length) (by simp) ?_
  have e : (ps ++ [((0, 0) : Pair)]).getD ps.length (0, 0) = (0, 0) := by
    rw [List.getD_eq_getElem?_getD, List.getElem?_append_right (Nat.le_refl _)]
    simp
  unfold stC
  rw [e]
  have : cutB c (0, 0) = false := by
    unfold cutB
    simp
  rw [this, Bool.false_and]
end Ck
set_option Elab.async false
set_option linter.all false
set_option maxRecDepth 100000
set_option maxHeartbeats 4000000
namespace Ck
open PySem L2
noncomputable def one (n k : Nat) : Nat := if 0 < k ∧ 0 < n then 1 else 0
end Ck
namespace L2
open PySem PySem.Spec PyProof.Rows
section
variable {κ : Type} [DecidableEq κ]
end
section
variable {P : Program} {w : World} {H : Hp} {h : Heap} {a : Addr}
end
section
variable {X : Cx} {pins : List (Addr × Obj)} {σ : St} {H : Hp} {s : Shared} {a : Addr} {y v : V} {u r : Value} {o : Option V} {A : Around} {E : Value → Shared → Prop}
end
section
variable {X : Cx} {pins : List (Addr × Obj)} {σ : St} {H : Hp} {s : Shared} {a : Addr} {kvs : List (Key × V)} {k : Key} {u : Value} {A : Around} {E : Value → Shared → Prop}
end
section
variable {X : Cx} {o i e value : Expr} {pos pos' tpos : Pos} {td ty tv : TE}
end
section
variable {X : Cx} {pos : Pos}
end
section
variable {X : Cx} {pins : List (Addr × Obj)} {σ : St} {H : Hp} {s : Shared} {a : Addr} {y d : V} {u r : Value} {o : Option V} {A : Around} {E : Value → Shared → Prop}
end
section
variable {X : Cx} {o e f : Expr} {apos cpos : Pos} {td ty tx : TE}
end
section
variable {X : Cx} {pins : List (Addr × Obj)} {σ : St} {H : Hp} {s : Shared} {a : Addr} {kvs : List (Key × V)} {A : Around} {E : Value → Shared → Prop}
end
section
variable {X : Cx} {pins : List (Addr × Obj)} {σ : St} {H : Hp} {s : Shared} {a : Addr} {y : V} {u : Value} {A : Around} {E : Value → Shared → Prop}
end
end L2
namespace L2
open PySem PySem.Spec PyProof.Rows
section
variable {κ : Type} [DecidableEq κ]
end
end L2
set_option Elab.async false
set_option linter.all false
set_option maxRecDepth 100000
set_option maxHeartbeats 4000000
namespace L2
open PySem PySem.Spec PyProof.Rows
section
variable {X : Cx} {f : Addr} {fd : FuncData} {ps : List Str} {sp : Sp} {x : Str} {p pos : Pos} {a b e : Expr} {es : List Expr} {tc : TE} {t : TA} {j k : Nat}
end
end L2
set_option Elab.async false
set_option linter.all false
set_option maxRecDepth 100000
set_option maxHeartbeats 4000000
namespace Dk
open PySem PyProof.Rows
section
variable {prog : Program} {w : World} {K : Type} [DecidableEq K] {knd : KeyKind prog w K} {A : Around} {E : Value → Shared → Prop} {s : Shared}
end
end Dk
namespace L2
open PySem PySem.Spec PyProof.Rows
end L2
namespace L2
open PySem PySem.Spec PyProof.Rows
end L2
namespace Ck
open PySem L2
end Ck
namespace L2
open PySem PySem.Spec PyProof.Rows Ck
section
variable {X : Cx}
end
end L2
namespace Ck
open PySem L2
end Ck
namespace Ck
open PySem L2
end Ck
namespace L2
open PySem PySem.Spec PyProof.Rows Ck
end L2
namespace L2
open PySem PySem.Spec PyProof.Rows Ck
end L2
set_option Elab.async false
set_option linter.all false
set_option maxRecDepth 100000
set_option maxHeartbeats 4000000
namespace Ck
open PySem L2
noncomputable def cutT : Bt → Int → List Pair
  | .leaf, _ => []
  | .node l r, a => (a, a + 2 + (l.size : Int) + (r.size : Int)) :: (cutT l a ++ cutT r (a + 1 + (l.size : Int)))
noncomputable def inT : Bt → Int → List Pair
  | .leaf, _ => []
  | .node l r, a => cutT l a ++ cutT r (a + 1 + (l.size : Int))
theorem cut_len : ∀ (t : Bt) (a : Int), (cutT t a).length = t.size
  | .leaf, _ => rfl
  | .node l r, a => by
    show (_ :: (cutT l a ++ cutT r _)).length = l.size + r.size + 1
    rw [List.length_cons, List.length_append, cut_len l, cut_len r]
theorem cut_bd : ∀ (t : Bt) (a : Int), ∀ p ∈ cutT t a, a ≤ p.1 ∧ p.1 + 2 ≤ p.2 ∧ p.2 ≤ a + 1 + (t.size : Int)
  | .leaf, _, p, hp => nomatch hp
  | .node l r, a, p, hp => by
    have sn : (Bt.node l r).size = l.size + r.size + 1 := rfl
    rcases List.mem_cons.mp hp with rfl | hp
    · simp only
      omega
    · rcases List.mem_append.mp hp with hp | hp
      · have := cut_bd l a p hp
        omega
      · have := cut_bd r _ p hp
        omega
theorem in_ne : ∀ (t : Bt) (a : Int), ∀ p ∈ inT t a, p ≠ (a, a + 1 + (t.size : Int))
  | .leaf, _, p, hp => nomatch hp
  | .node l r, a, p, hp => by
    have sn : (Bt.node l r).size = l.size + r.size + 1 := rfl
    intro z
    subst z
    rcases List.mem_append.mp hp with hp | hp
    · have := cut_bd l a _ hp
      simp only at this
      omega
    · have := cut_bd r _ _ hp
      simp only at this
      omega
theorem cut_nd : ∀ (t : Bt) (a : Int), (cutT t a).Nodup
  | .leaf, _ => List.nodup_nil
  | .node l r, a => by
    refine List.nodup_cons.mpr ⟨fun h => ?_, List.nodup_append.mpr ⟨cut_nd l a, cut_nd r _, fun p hp q hq e => ?_⟩⟩
    · refine in_ne (.node l r) a _ h ?_
      have sn : (Bt.node l r).size = l.size + r.size + 1 := rfl
      rw [sn]
      congr 1
      omega
    · have h1 := cut_bd l a p hp
      have h2 := cut_bd r _ q hq
      rw [e] at h1
      omega
theorem cut_nc : ∀ (t : Bt) (a : Int), NC (cutT t a)
  | .leaf, _ => fun p hp => nomatch hp
  | .node l r, a => by
    have bd := cut_bd (.node l r) a
    have sn : (Bt.node l r).size = l.size + r.size + 1 := rfl
    intro p hp q hq c
    have bp := bd p hp
    have bq := bd q hq
    have c1 := c.1; have c2 := c.2.1; have c3 := c.2.2
    rcases List.mem_cons.mp hp with rfl | hp
    · simp only at c1 c2 c3
      omega
    · rcases List.mem_cons.mp hq with rfl | hq
      · simp only at c1 c2 c3
        omega
      · rcases List.mem_append.mp hp with hp | hp <;> rcases List.mem_append.mp hq with hq | hq
        · exact cut_nc l a p hp q hq c
        · have := cut_bd l a p hp
          have := cut_bd r _ q hq
          omega
        · have := cut_bd r _ p hp
          have := cut_bd l a q hq
          omega
        · exact cut_nc r _ p hp q hq c
theorem in_cut : ∀ (t : Bt) (a : Int), ∀ p ∈ inT t a, p ∈ cutT t a
  | .leaf, _, p, hp => hp
  | .node l r, a, p, hp => List.mem_cons_of_mem _ hp
theorem cut_in : ∀ (t : Bt) (a : Int), cutT t a = (if t.size = 0 then [] else [(a, a + 1 + (t.size : Int))]) ++ inT t a
  | .leaf, _ => rfl
  | .node l r, a => by
    have sn : (Bt.node l r).size = l.size + r.size + 1 := rfl
    rw [if_neg (by omega), sn]
    show (a, a + 2 + (l.size : Int) + (r.size : Int)) :: (cutT l a ++ cutT r (a + 1 + (l.size : Int))) = (a, a + 1 + ((l.size + r.size + 1 : Nat) : Int)) :: (cutT l a ++ cutT r (a + 1 + (l.size : Int)))
    rw [show a + 2 + (l.size : Int) + (r.size : Int) = a + 1 + ((l.size + r.size + 1 : Nat) : Int) by omega]
theorem in_len (t : Bt) (a : Int) : (inT t a).length = t.size - 1 := by
  have := cut_len t a
  rw [cut_in, List.length_append] at this
  split at this <;> simp at this <;> omega
theorem fl_of {t : Bt} {qs : List Pair} (pm : qs.Perm (inT t 0)) (rs : qs.Pairwise leP) : IsFl ((t.size : Int) + 2) qs where
  c2 := by omega
  len := by
    rw [pm.length_eq, in_len]
    split <;> omega
  ct := fun p hp => by
    have hm := pm.mem_iff.mp hp
    have b := cut_bd t 0 p (in_cut t 0 p hm)
    have n := in_ne t 0 p hm
    refine ⟨by omega, by omega, by omega, fun z => n (Prod.ext z.1 ?_)⟩
    show p.2 = 0 + 1 + (t.size : Int)
    omega
  nc := fun p hp q hq => cut_nc t 0 p (in_cut t 0 p (pm.mem_iff.mp hp)) q (in_cut t 0 q (pm.mem_iff.mp hq))
  nd := by
    have := cut_nd t 0
    rw [cut_in] at this
    exact pm.nodup_iff.mpr (List.nodup_append.mp this).2.1
  ris := rs
noncomputable def popN : Nat → Bt → List Bt → Option (Bt × List Bt)
  | 0, t, s => some (t, s)
  | k + 1, t, s => match popN k t s with
    | some (t', u :: r) => some (.node t' u, r)
    | _ => none
noncomputable def Fit : List Bt → List Pair → Prop
  | [], [] => True
  | t :: ts, p :: ps => (t.size : Int) + 1 = p.2 - p.1 ∧ Fit ts ps
  | _, _ => False
end Ck
set_option Elab.async false
set_option linter.all false
set_option maxRecDepth 100000
set_option maxHeartbeats 4000000
namespace Ck
open PySem L2
end Ck
set_option Elab.async false
set_option linter.all false
set_option maxRecDepth 100000
set_option maxHeartbeats 4000000
namespace Dt
open PySem PyProof.Rows
section
variable {prog : Program} {w : World} {A : Around} {E : Value → Shared → Prop} {s : Shared}
noncomputable def At (h : Heap) (d : Addr) (es : Array DictEntry) (ep : Nat) : Prop := ∃ o, h.get? d = some o ∧ o.ExactDict ∧ o.data = .dict es ep
theorem At.at' {h h' : Heap} {d : Addr} {es : Array DictEntry} {ep : Nat} (x : At h d es ep) (e : ∀ o, h.get? d = some o → h'.get? d = some o) : At h' d es ep := let ⟨o, ho, r⟩ := x; ⟨o, e _ ho, r⟩
theorem At.typeIs {d : Addr} {es : Array DictEntry} {ep : Nat} (x : At s.heap d es ep) : s.TypeIs (.ref d) "dict" := let ⟨o, ho, r, _⟩ := x; ⟨o, ho, r.1⟩
theorem next_at {I d : Addr} {i ep : Nat} {es : Array DictEntry} {R : PySem.Fin → Shared → Prop} (hit : s.heap.IsKeyIter I d i es.size ep) (hm : At s.heap d es ep)
    (item : ∀ e, es[i]? = some e → ∀ h', h'.IsKeyIter I d (i + 1) es.size ep → Heap.SameBut I s.heap h' → R (.done (.ret e.key)) { s with heap := h' })
    (hh : es.size ≤ i → A.handled = none)
    (fin : es.size ≤ i → ∀ h' e, Heap.ExtBut I s.heap h' → (∃ o, h'.get? e = some o ∧ o.cls = .type "StopIteration") → E (.ref e) { s with heap := h' }) :
    wpAny (model prog w) A (Builtin.«dict_keyiterator.__next__» ⟨[.ref I], []⟩) R E s := by
  have hT := hit.typeIs
  obtain ⟨o, ho, hc, hd⟩ := id hit
  obtain ⟨od, hod, hcd, hdd⟩ := id hm
  refine wpAny_bind (wpAny_pure ?_)
  refine wpAny_bind ?_
  refine wpAny_bind ?_
  first | refine wpAny_bind (wpAny_typeNameOfWhole_keyiter hT (wpAny_pure ?_)) | refine wpAny_bind (wpAny_typeNameOf_keyiter hT (wpAny_pure ?_))
  refine wpAny_bind (wpAny_fieldsOf ho hd ?_)
  simp only [show Builtin.Dict_items.ownsTuple "dict_keyiterator" = false by decide, Bool.false_eq_true, if_false]
  show wpAny _ _ (if (Value.ref d == Value.none) = true then _ else _) _ _ s
  rw [if_neg (show ¬ ((Value.ref d == Value.none) = true) from Bool.false_ne_true)]
  refine wpAny_bind (wpAny_pure (wpAny_bind (wpAny_dictEntries hod hdd ?_)))
  rw [if_neg (by simp)]
  refine wpAny_bind (wpAny_pure (wpAny_bind (wpAny_dictEpoch hod hdd ?_)))
  rw [if_neg (by simp)]
  refine wpAny_pure ?_
  have neg : ¬ ((i : Int) < 0) := by omega
  by_cases hlt : i < es.size
  · simp only [neg, if_false, Int.toNat_natCast, Array.getElem?_eq_getElem hlt]
    refine wpAny_bind ?_
    first | refine wpAny_bind (wpAny_typeNameOfWhole_keyiter hT (wpAny_pure ?_)) | refine wpAny_bind (wpAny_typeNameOf_keyiter hT (wpAny_pure ?_))
    refine wpAny_bind (wpAny_isOneOf_keyiter hT ?_)
    show wpAny _ _ (setField (.ref I) 1 (rawInt ((i : Int) + 1)) >>= _) _ _ s
    refine wpAny_bind (wpAny_setField ho hd (by simp) ?_)
    have it2 : (s.heap.update I (Obj.mapFields (·.setIfInBounds 1 (rawInt ((i : Int) + 1))))).IsKeyIter I d (i + 1) es.size ep :=
      ⟨_, Heap.get?_update_self _ ho (Obj.isFreed_of_fields (Obj.data_mapFields hd _)), (Obj.cls_mapFields ..).trans hc, by rw [Obj.data_mapFields hd]; simp [rawInt]⟩
    refine wpAny_bind (wpAny_holding ?_)
    refine wpAny_bind (wpAny_isOneOf_keyiter (s := { s with heap := s.heap.update I (Obj.mapFields (·.setIfInBounds 1 (rawInt ((i : Int) + 1)))) }) it2.typeIs ?_)
    show wpAny _ _ (pure es[i].key) _ _ _
    exact wpAny_pure (wpAny_pure (item es[i] (Array.getElem?_eq_getElem hlt) _ it2 (Heap.SameBut.update ..)))
  · have hge : es.size ≤ i := by omega
    simp only [neg, if_false, Int.toNat_natCast, Array.getElem?_eq_none hge]
    refine wpAny_bind ?_
    first | refine wpAny_bind (wpAny_typeNameOfWhole_keyiter hT (wpAny_pure ?_)) | refine wpAny_bind (wpAny_typeNameOf_keyiter hT (wpAny_pure ?_))
    show wpAny _ _ (setField (.ref I) 0 .none >>= _) _ _ s
    refine wpAny_bind (wpAny_setField ho hd (by simp) ?_)
    show wpAny _ _ (newExc (.type "StopIteration") [] >>= _) _ _ _
    refine wpAny_bind ?_
    simp only [newExc, newTuple]
    refine wpAny_bind (wpAny_newObj_type ?_ (by size_fits))
    refine wpAny_bind (m := firstArgMember _ _) (wpAny_of_eq (a := Value.none) (by first | rfl | (simp only [firstArgMember]; rfl)) ?_)
    refine wpAny_newObj_type ?_ (by size_fits)
    simp only [raiseNew]
    refine wpAny_bind (wpAny_handled ?_)
    rw [hh hge]
    refine wpAny_bind (wpAny_pure (wpAny_throw ?_))
    exact fin hge _ _ (((Heap.SameBut.update ..).extBut.push _).push _) ⟨_, Heap.get?_push_size _ rfl, rfl⟩
theorem walks (hh : A.handled = none) (I d : Addr) (hne : d ≠ I) (es : Array DictEntry) (ep : Nat) :
    Walks prog w A I [I, d] [I] es.size (fun i v => ∃ e, es[i]? = some e ∧ v = e.key) (fun i h => h.IsKeyIter I d i es.size ep ∧ At h d es ep) where
  sub := fun b hb => by simp at hb; simp [hb]
  frame := fun _ _ _ st hk => ⟨st.1.at fun o e => hk I (by simp) o e, st.2.at' fun o e => hk d (by simp) o e⟩
  item := fun i s Q E hi st hQ => by
    have hT := st.1.typeIs
    unfold pyNext
    refine wpAny_bind (wpAny_attempt (wpAny_callSpecial?_slot (name := Str.ofString "__next__") hT F.slot_dict_keyiterator_next (wpAny_call_entry F.slot_dict_keyiterator_next hT F.entry_dict_keyiterator_next
      (next_at st.1 st.2 (fun e he h' it2 sb => ⟨_, rfl, wpAny_pure ?_⟩) (fun z => absurd z (by omega)) (fun z => absurd z (by omega))) (F.args_dict_keyiterator_next_1 _))))
    exact hQ e.key h' s.toks ⟨e, he, rfl⟩ ⟨it2, st.2.at' fun o x => sb.extBut d o hne x⟩ fun b o hb x => sb.extBut b o (fun z => hb (by simp [z])) x
  done := fun s Q E st hQ => by
    have hT := st.1.typeIs
    unfold pyNext
    refine wpAny_bind (wpAny_attempt (wpAny_callSpecial?_slot (name := Str.ofString "__next__") hT F.slot_dict_keyiterator_next (wpAny_call_entry F.slot_dict_keyiterator_next hT F.entry_dict_keyiterator_next
      (next_at (A := A.in1) st.1 st.2 (fun e he => absurd (Array.getElem?_eq_some_iff.mp he).1 (Nat.lt_irrefl _)) (fun _ => hh) (fun _ h' e k he => ?_)) (F.args_dict_keyiterator_next_1 _))))
    obtain ⟨o, ho, hc⟩ := he
    exact wpAny_bind (wpAny_isInstance (T := "StopIteration") (b := true) ⟨o, ho, hc⟩ isSubtype_stop (wpAny_pure (hQ _ s.toks fun b o hb x => k b o (fun z => hb (by simp [z])) x)))
  self := fun _ _ _ _ st hQ => wpAny_pyIter_keyiter st.1 hQ
end
end Dt
namespace L2
open PySem PySem.Spec PyProof.Rows
end L2
set_option Elab.async false
set_option linter.all false
set_option maxRecDepth 100000
set_option maxHeartbeats 4000000
namespace L2
open PySem
end L2
namespace Ck
open PySem L2
noncomputable def inQ : List Bt → List Pair → List Pair
  | t :: ts, p :: ps => inT t p.1 ++ inQ ts ps
  | _, _ => []
theorem Fit.appI : ∀ {ts : List Bt} {ps qs : List Pair}, Fit ts (ps ++ qs) → ∃ us vs, ts = us ++ vs ∧ Fit us ps ∧ Fit vs qs
  | ts, [], qs, h => ⟨[], ts, rfl, trivial, h⟩
  | [], p :: ps, qs, h => h.elim
  | t :: ts, p :: ps, qs, h => by
    obtain ⟨us, vs, e, f1, f2⟩ := Fit.appI (ts := ts) (ps := ps) (qs := qs) h.2
    exact ⟨t :: us, vs, by rw [e]; rfl, ⟨h.1, f1⟩, f2⟩
theorem Fit.join : ∀ {us vs : List Bt} {ps qs : List Pair}, Fit us ps → Fit vs qs → Fit (us ++ vs) (ps ++ qs) ∧ inQ (us ++ vs) (ps ++ qs) = inQ us ps ++ inQ vs qs
  | [], vs, [], qs, _, h => ⟨h, rfl⟩
  | [], _, _ :: _, _, h, _ => h.elim
  | _ :: _, _, [], _, h, _ => h.elim
  | u :: us, vs, p :: ps, qs, h, g => by
    obtain ⟨f, e⟩ := Fit.join (us := us) (vs := vs) h.2 g
    refine ⟨⟨h.1, f⟩, ?_⟩
    show inT u p.1 ++ inQ (us ++ vs) (ps ++ qs) = (inT u p.1 ++ inQ us ps) ++ inQ vs qs
    rw [e, List.append_assoc]
noncomputable def PiT (n : Nat) (pl cs : List Pair) : Prop := ∀ ts, Fit ts pl → ∃ t : Bt, t.size = n ∧ (inT t 0).Perm (cs ++ inQ ts pl)
theorem PiT.start (n : Nat) : PiT n [((0 : Int), (n : Int) + 1)] [] := fun ts h => by
  match ts, h with
  | [t], h =>
    have := h.1
    simp only at this
    refine ⟨t, by omega, ?_⟩
    show (inT t 0).Perm (inT t 0 ++ [])
    rw [List.append_nil]
theorem PiT.unit {n : Nat} {pl cs : List Pair} {p : Pair} (h : PiT n (pl ++ [p]) cs) (b : p.1 < p.2) (hu : ¬ p.2 - p.1 > 1) : PiT n pl cs := fun ts f => by
  obtain ⟨g, e⟩ := f.join (vs := [.leaf]) (qs := [p]) ⟨by show ((0 : Nat) : Int) + 1 = _; omega, trivial⟩
  obtain ⟨t, e1, pm⟩ := h _ g
  refine ⟨t, e1, ?_⟩
  have z : inQ [.leaf] [p] = [] := rfl
  rw [e, z, List.append_nil] at pm
  exact pm
theorem PiT.split {n : Nat} {pl cs : List Pair} {p : Pair} {c : Int} (h : PiT n (pl ++ [p]) cs) (c1 : p.1 < c) (c2 : c < p.2) : PiT n (pl ++ [(p.1, c), (c, p.2)]) (cs ++ ([(p.1, c), (c, p.2)] : List Pair).filter nonU) := fun ts f => by
  obtain ⟨us, vs, rfl, f1, f2⟩ := f.appI
  match vs, f2 with
  | [x, y], f2 =>
    have x1 := f2.1
    have y1 := f2.2.1
    simp only at x1 y1
    have sn : (Bt.node x y).size = x.size + y.size + 1 := rfl
    obtain ⟨g, e⟩ := f1.join (vs := [.node x y]) (qs := [p]) ⟨by rw [sn]; omega, trivial⟩
    obtain ⟨t, e1, pm⟩ := h _ g
    refine ⟨t, e1, pm.trans ?_⟩
    rw [e, (f1.join f2).2]
    have en : inQ [.node x y] [p] = (cutT x p.1 ++ cutT y c) ++ [] := by
      show (cutT x p.1 ++ cutT y (p.1 + 1 + (x.size : Int))) ++ [] = _
      rw [show p.1 + 1 + (x.size : Int) = c by omega]
    have ev : inQ [x, y] [(p.1, c), (c, p.2)] = inT x p.1 ++ (inT y c ++ []) := rfl
    have nx : nonU (p.1, c) = decide (¬ x.size = 0) := by
      unfold nonU
      simp only
      rw [decide_eq_decide]
      omega
    have ny : nonU (c, p.2) = decide (¬ y.size = 0) := by
      unfold nonU
      simp only
      rw [decide_eq_decide]
      omega
    have ef : ([(p.1, c), (c, p.2)] : List Pair).filter nonU = (if x.size = 0 then [] else [(p.1, c)]) ++ (if y.size = 0 then [] else [(c, p.2)]) := by
      rw [List.filter_cons, List.filter_cons, List.filter_nil, nx, ny]
      by_cases hx : x.size = 0 <;> by_cases hy : y.size = 0 <;> simp [hx, hy]
    rw [en, ev, ef, cut_in x, cut_in y, show p.1 + 1 + (x.size : Int) = c by omega, show c + 1 + (y.size : Int) = p.2 by omega]
    refine List.perm_iff_count.mpr fun z => ?_
    simp only [List.count_append, List.append_nil]
    omega
theorem PiT.tree {n : Nat} {cs qs : List Pair} (h : PiT n [] cs) (pm : qs.Perm cs) : ∃ t : Bt, t.size = n ∧ qs.Perm (inT t 0) := by
  obtain ⟨t, e, p⟩ := h [] trivial
  refine ⟨t, e, pm.trans ?_⟩
  have z : inQ [] [] = [] := rfl
  rw [z, List.append_nil] at p
  exact p.symm
noncomputable def kk (p : Pair) : List Key := [.inl p.1, .inl p.2]
noncomputable def insK (ks : List Pair) (p : Pair) : List Pair := if p ∈ ks then ks else ks ++ [p]
end Ck
set_option Elab.async false
set_option linter.all false
set_option maxRecDepth 100000
namespace Ck
open PySem PySem.W PySem.Calls PyProof.Rows
noncomputable def endLook {α : Type} (p q : Program) (loose : List Str) (Xt : Shared → Bool) (Yf : Shared → α) (h0 : Heap) (s : Shared) :=
  ((staticsOk (importedModules p.main.body) h0 s.heap && namesBound p s.heap && gensDone s && laidKept h0 s.heap),
    openSeen q loose (importedModules p.main.body) Xt true s, Yf s)
theorem left_whole {p q : Program} {loose : List Str} {Xt : Shared → Bool} {α : Type} {Yf : Shared → α} {Ya : World → α} {N M m : Nat} {H : Params → Heap} {gs : Array GenState} {dr : Drawn} {tk : Nat} {an : Option Value}
    (o : ∀ w : World, (fencedOpening treeTable p w N).map (fun s => (s.heap, s.gens, s.drawn, s.toks)) = some (H w.params, gs, dr, tk))
    (z : ∀ w : World, ((H w.params).isNs mainGlobals && gs.size == 0, (H w.params).objs.size, (H w.params).nsMap mainGlobals "__annotations__") = (true, m, an))
    (r : ∀ (w : World) (os : OsState), ∃ e, topRun treeTable p w m an M ⟨H w.params, gs, dr, tk, os⟩ (topStub p) = some e ∧ endLook p q loose Xt Yf (H w.params) e = (true, openGood q loose, Ya w))
    (le : M ≤ N) : LeftO p q loose Xt Yf Ya N := by
  intro w
  have ow := o w
  cases hf : fencedOpening treeTable p w N with
  | none => rw [hf] at ow; cases ow
  | some s =>
    rw [hf] at ow
    have os := Option.some.inj ow
    have e1 : s.heap = H w.params := congrArg Prod.fst os
    have e2 : s.gens = gs := congrArg (fun x => x.2.1) os
    have e3 : s.drawn = dr := congrArg (fun x => x.2.2.1) os
    have e4 : s.toks = tk := congrArg (fun x => x.2.2.2) os
    obtain ⟨e, run, look⟩ := r w s.os
    have hs : s = ⟨H w.params, gs, dr, tk, s.os⟩ := by rw [← e1, ← e2, ← e3, ← e4]
    have run' := topRun_mono (N - M) _ _ _ _ run
    rw [Nat.add_sub_cancel' le] at run'
    have zw := z w
    have z1 := congrArg Prod.fst zw
    have z2 := congrArg (fun x => x.2.1) zw
    have z3 := congrArg (fun x => x.2.2) zw
    dsimp only at z1 z2 z3
    have l1 := congrArg Prod.fst look
    have l2 := congrArg Prod.snd look
    have tf : topFrom treeTable p w N s = some e := by
      rw [hs]
      unfold topFrom
      dsimp only
      rw [z1, z2, z3, run']
      unfold endLook at l1
      dsimp only at l1
      dsimp only [Option.bind]
      rw [l1]
    unfold openEnds
    rw [hf, Option.bind_some, tf]
    exact congrArg some l2
noncomputable def alive (o : Obj) : Option Obj := match o with
  | ⟨_, _, .freed, _⟩ => none
  | o => some o
noncomputable def pickM : List Obj → List Bool → List (Option Obj)
  | _, [] => []
  | [], true :: m => none :: pickM [] m
  | [], false :: m => pickM [] m
  | o :: os, true :: m => alive o :: pickM os m
  | _ :: os, false :: m => pickM os m
noncomputable def idxM : List Bool → Nat → List Nat
  | [], _ => []
  | true :: m, i => i :: idxM m (i + 1)
  | false :: m, i => idxM m (i + 1)
theorem pick_at : ∀ (m : List Bool) (os : List Obj) (pre : List Obj), pickM os m = (idxM m pre.length).map fun a => (pre ++ os)[a]?.bind alive
  | [], os, pre => by cases os <;> rfl
  | b :: m, [], pre => by
    have k := pick_at m [] (pre ++ [default])
    rw [List.length_append, List.length_singleton] at k
    have e : ∀ i, pre.length < i → ((pre ++ [(default : Obj)]) ++ [])[i]?.bind alive = (pre ++ [])[i]?.bind alive := fun i hi => by
      rw [List.getElem?_eq_none (by simp; omega), List.getElem?_eq_none (by simp; omega)]
    have lt : ∀ (m : List Bool) (n i : Nat), i ∈ idxM m n → n ≤ i := by
      intro m
      induction m with
      | nil => intro n i h; cases h
      | cons b m ih => intro n i h; cases b with
        | true =>
          rcases List.mem_cons.1 h with h | h
          · omega
          · have := ih _ _ h; omega
        | false => have := ih _ _ h; omega
    have k' : pickM [] m = (idxM m (pre.length + 1)).map fun a => (pre ++ [])[a]?.bind alive := by
      rw [k]; exact List.map_congr_left fun i hi => e i (lt _ _ _ hi)
    cases b with
    | true => show none :: pickM [] m = _ :: _; rw [k']; congr 1; simp
    | false => exact k'
  | b :: m, o :: os, pre => by
    have k := pick_at m os (pre ++ [o])
    rw [List.length_append, List.length_singleton, List.append_assoc, List.singleton_append] at k
    cases b with
    | true => show alive o :: pickM os m = _ :: _; rw [k]; congr 1; simp
    | false => exact k
theorem get_alive (h : Heap) (a : Addr) : h.get? a = h.objs.toList[a]?.bind alive := by
  unfold Heap.get?
  rw [Array.getElem?_toList]
  cases h.objs[a]? with
  | none => rfl
  | some o => obtain ⟨c, d, x, s⟩ := o; cases x <;> rfl
theorem pick_eq {m : List Bool} {as : List Addr} (e : as = idxM m 0) (h : Heap) : as.map h.get? = pickM h.objs.toList m := by
  rw [pick_at m h.objs.toList [], e]
  exact List.map_congr_left fun a _ => get_alive h a
section
variable {tb : String → Option Builtin} {p : Program} {w : World} {m : Nat} {an : Option Value} {env : Env} {q : Pos}
noncomputable def lookEnd {β : Type} (tb : String → Option Builtin) (p : Program) (w : World) (m : Nat) (an : Option Value) (q : Pos) (c : Code) (n4 : Nat) (L : Shared → β) (r : Flow × SharedT × Code × Pos) : Flow × Code × Option β :=
  (r.1, r.2.2.1, (topRun tb p w m an n4 r.2.1.abs ⟨doneF .next, c, r.2.2.2, [topFrame q]⟩).map L)
theorem run_whole {β : Type} {L : Shared → β} {b : List Stmt} {c : Code} {n1 n2 n3 n4 : Nat} {S0 Sa : Shared} {Sb : SharedT} {pos0 pos1 : Pos} {z : β} (hc : c = .body b env)
    (h1 : topGo tb p w m an n1 S0 (topStub p) = some (Sa, ⟨denote tb c, c, pos0, [topFrame q]⟩))
    (h2 : segRun tb p w m an 1 n2 Sa (blockOf b env c pos0 [topFrame q]) = some (.next, Sb.abs, c, pos1))
    (h3 : (segRunT tb p w m an 1 n3 Sb (piecesOf b env c pos1 [topFrame q])).map (lookEnd tb p w m an q c n4 L) = some (.next, c, some z)) :
    ∃ e, topRun tb p w m an (n1 + (n2 + (n3 + n4))) S0 (topStub p) = some e ∧ L e = z := by
  cases hr : segRunT tb p w m an 1 n3 Sb (piecesOf b env c pos1 [topFrame q]) with
  | none => rw [hr] at h3; cases h3
  | some x =>
    obtain ⟨f, s, d, ps⟩ := x
    rw [hr] at h3
    have h3 := Option.some.inj h3
    unfold lookEnd at h3
    have a1 : f = .next := congrArg Prod.fst h3
    have a2 : d = c := congrArg (fun x => x.2.1) h3
    have a3 := congrArg (fun x => x.2.2) h3
    dsimp only at a3
    subst a1 a2 hc
    cases ht : topRun tb p w m an n4 s.abs ⟨doneF .next, .body b env, ps, [topFrame q]⟩ with
    | none => rw [ht] at a3; cases a3
    | some e =>
      rw [ht] at a3
      have k := piece_app (rest := []) (segRun_of hr) (piece_nil ht)
      rw [List.append_nil] at k
      exact ⟨e, go_top h1 (piece_block h2 k), Option.some.inj a3⟩
end
end Ck
set_option maxHeartbeats 4000000
namespace Ck
open PySem L2
noncomputable def top (i : Nat) : Stmt := PySem.Challenge.pw_countkin_k18_floors_looked_at.main.body.getD i (.Pass ⟨0, 0, 0, 0⟩)
structure ClA where
  C_Floors : Addr
  C_SplitFamily : Addr
  C_Family : Addr
  f_Floors__Family___init__ : Addr
  f_Floors__SplitFamily___init__ : Addr
  f_Floors____init__ : Addr
  f_Floors__is_one : Addr
  f_Floors__Family_refuse_other : Addr
  f_Floors__Family_number_of : Addr
  f_Floors__Family_next_of : Addr
  f_Floors__size_of : Addr
structure ClOk (K : PySem.W.Frag) (mg : Str → Option Value) (ca : ClA) : Prop where
  m_Floors : mg "Floors" = some (.ref ca.C_Floors)
  m_SplitFamily : mg "SplitFamily" = some (.ref ca.C_SplitFamily)
  m_Family : mg "Family" = some (.ref ca.C_Family)
  c_Floors : Cls K ca.C_Floors
  mt_Floors_is_one : Meth K ca.C_Floors "is_one" ca.f_Floors__is_one
  mt_Floors_size_of : Meth K ca.C_Floors "size_of" ca.f_Floors__size_of
  mt_Floors_number_of : Meth K ca.C_Floors "number_of" ca.f_Floors__Family_number_of
  mt_Floors_next_of : Meth K ca.C_Floors "next_of" ca.f_Floors__Family_next_of
  mt_Floors_refuse_other : Meth K ca.C_Floors "refuse_other" ca.f_Floors__Family_refuse_other
  mk_Floors : Mk K ca.C_Floors ca.f_Floors____init__
  cm_SplitFamily___init___Floors : ClsM K ca.C_SplitFamily "__init__" ca.f_Floors__SplitFamily___init__
  cm_Family___init___Floors : ClsM K ca.C_Family "__init__" ca.f_Floors__Family___init__
  na_Floors_word : NoAttr K ca.C_Floors "word"
  na_Floors_least : NoAttr K ca.C_Floors "least"
noncomputable abbrev s__law_cell_at : Stmt := top 18
theorem sc__law_cell_at : FnScope ["_law_script", "_law_k"] ["_law_script", "_law_k"] (defScope s__law_cell_at) := ⟨rfl, rfl, rfl, by decide +kernel, rfl, by decide +kernel, by decide +kernel⟩
noncomputable abbrev s__law_draws : Stmt := top 19
theorem sc__law_draws : FnScope ["_law_script", "_law_turn", "_law_many", "_law_cells", "_law_found", "_law_left", "_law_k", "_law_at", "_law_place", "_law_number_here"] ["_law_script", "_law_turn", "_law_many"] (defScope s__law_draws) := ⟨rfl, rfl, rfl, by decide +kernel, rfl, by decide +kernel, by decide +kernel⟩
noncomputable abbrev s__law_cuts : Stmt := top 21
theorem sc__law_cuts : FnScope ["_law_script", "_law_size", "_law_turn", "_law_draws_here", "_law_side", "_law_cuts_here", "_law_pile", "_law_k", "_law_a", "_law_b", "_law_third", "_law_part"] ["_law_script", "_law_size", "_law_turn"] (defScope s__law_cuts) := ⟨rfl, rfl, rfl, by decide +kernel, rfl, by decide +kernel, by decide +kernel⟩
noncomputable abbrev s__law_number : Stmt := top 20
theorem sc__law_number : FnScope ["_law_draw", "_law_cell", "_law_top"] ["_law_draw", "_law_cell", "_law_top"] (defScope s__law_number) := ⟨rfl, rfl, rfl, by decide +kernel, rfl, by decide +kernel, by decide +kernel⟩
noncomputable abbrev s__law_pair : Stmt := top 22
theorem sc__law_pair : FnScope ["_law_draw", "_law_corners", "_law_other", "_law_a", "_law_b"] ["_law_draw", "_law_corners", "_law_other"] (defScope s__law_pair) := ⟨rfl, rfl, rfl, by decide +kernel, rfl, by decide +kernel, by decide +kernel⟩
noncomputable abbrev s__law_changed : Stmt := top 24
theorem sc__law_changed : FnScope ["_law_cuts_here", "_law_corners", "_law_draws_here", "_law_far", "_law_turn", "_law_at", "_law_to", "_law_a", "_law_b", "_law_number_here", "_law_step"] ["_law_cuts_here", "_law_corners", "_law_draws_here", "_law_far", "_law_turn"] (defScope s__law_changed) := ⟨rfl, rfl, rfl, by decide +kernel, rfl, by decide +kernel, by decide +kernel⟩
noncomputable abbrev s__law_by_chance : Stmt := top 23
theorem sc__law_by_chance : FnScope ["_law_script", "_law_draws_here", "_law_corners", "_law_cuts_here", "_law_k", "_law_a"] ["_law_script"] (defScope s__law_by_chance) := ⟨rfl, rfl, rfl, by decide +kernel, rfl, by decide +kernel, by decide +kernel⟩
noncomputable abbrev s__law_crossing : Stmt := top 25
theorem sc__law_crossing : FnScope ["_law_cuts_here", "_law_a", "_law_b", "_law_c", "_law_d"] ["_law_cuts_here"] (defScope s__law_crossing) := ⟨rfl, rfl, rfl, by decide +kernel, rfl, by decide +kernel, by decide +kernel⟩
noncomputable abbrev s__law_stand : Stmt := top 26
theorem sc__law_stand : FnScope ["_law_corners", "_law_cuts_here", "_law_k", "_law_a", "_law_b", "_law_c", "_law_d"] ["_law_corners", "_law_cuts_here"] (defScope s__law_stand) := ⟨rfl, rfl, rfl, by decide +kernel, rfl, by decide +kernel, by decide +kernel⟩
noncomputable abbrev s_Floors__Family___init__ : Stmt := inClass (top 11) 0
theorem sc_Floors__Family___init__ : FnScope ["self", "word", "least"] ["self", "word", "least"] (defScope s_Floors__Family___init__) := ⟨rfl, rfl, rfl, by decide +kernel, rfl, by decide +kernel, by decide +kernel⟩
noncomputable abbrev s_Floors__SplitFamily___init__ : Stmt := inClass (top 12) 0
theorem sc_Floors__SplitFamily___init__ : FnScope ["self", "word"] ["self", "word"] (defScope s_Floors__SplitFamily___init__) := ⟨rfl, rfl, rfl, by decide +kernel, rfl, by decide +kernel, by decide +kernel⟩
noncomputable abbrev s_Floors____init__ : Stmt := inClass (top 14) 0
theorem sc_Floors____init__ : FnScope ["self"] ["self"] (defScope s_Floors____init__) := ⟨rfl, rfl, rfl, by decide +kernel, rfl, by decide +kernel, by decide +kernel⟩
noncomputable abbrev s_any_cross : Stmt := top 3
theorem sc_any_cross : FnScope ["pairs", "a", "b", "c", "d"] ["pairs"] (defScope s_any_cross) := ⟨rfl, rfl, rfl, by decide +kernel, rfl, by decide +kernel, by decide +kernel⟩
noncomputable abbrev s_may_be_cut : Stmt := top 15
theorem sc_may_be_cut : FnScope ["corners", "a", "b"] ["corners", "a", "b"] (defScope s_may_be_cut) := ⟨rfl, rfl, rfl, by decide +kernel, rfl, by decide +kernel, by decide +kernel⟩
noncomputable abbrev s_Floors__is_one : Stmt := inClass (top 14) 2
theorem sc_Floors__is_one : FnScope ["self", "thing", "corners", "cuts"] ["self", "thing"] (defScope s_Floors__is_one) := ⟨rfl, rfl, rfl, by decide +kernel, rfl, by decide +kernel, by decide +kernel⟩
noncomputable abbrev s_Floors__Family_refuse_other : Stmt := inClass (top 11) 7
theorem sc_Floors__Family_refuse_other : FnScope ["self", "thing"] ["self", "thing"] (defScope s_Floors__Family_refuse_other) := ⟨rfl, rfl, rfl, by decide +kernel, rfl, by decide +kernel, by decide +kernel⟩
noncomputable abbrev s_Floors__Family_number_of : Stmt := inClass (top 11) 8
theorem sc_Floors__Family_number_of : FnScope ["self", "thing"] ["self", "thing"] (defScope s_Floors__Family_number_of) := ⟨rfl, rfl, rfl, by decide +kernel, rfl, by decide +kernel, by decide +kernel⟩
noncomputable abbrev s_Floors__Family_next_of : Stmt := inClass (top 11) 10
theorem sc_Floors__Family_next_of : FnScope ["self", "thing", "number", "size"] ["self", "thing"] (defScope s_Floors__Family_next_of) := ⟨rfl, rfl, rfl, by decide +kernel, rfl, by decide +kernel, by decide +kernel⟩
noncomputable abbrev s__law_refused : Stmt := top 27
theorem sc__law_refused : FnScope ["_law_kin", "_law_corners", "_law_cuts_here", "_law_refused_here"] ["_law_kin", "_law_corners", "_law_cuts_here"] (defScope s__law_refused) := ⟨rfl, rfl, rfl, by decide +kernel, rfl, by decide +kernel, by decide +kernel⟩
noncomputable abbrev s_Floors__size_of : Stmt := inClass (top 14) 1
theorem sc_Floors__size_of : FnScope ["self", "thing"] ["self", "thing"] (defScope s_Floors__size_of) := ⟨rfl, rfl, rfl, by decide +kernel, rfl, by decide +kernel, by decide +kernel⟩
noncomputable abbrev s_law : Stmt := top 28
theorem sc_law : FnScope ["_law_script", "_law_size", "_law_first", "_law_corners", "_law_turn", "_law_draws_here", "_law_cuts_here", "_law_due", "_law_kin", "_law_handed", "_law_found", "_law_told"] ["_law_script"] (defScope s_law) := ⟨rfl, rfl, rfl, by decide +kernel, rfl, by decide +kernel, by decide +kernel⟩
noncomputable def sp__law_cell_at (K : PySem.W.Frag) (_ : ClA) : Sp := fun vs H Q _ => ∃ (a : Addr) (ns : List Int) (k : Int), vs = [.ref a, .int k] ∧ SqL K H a (ns.map V.int) ∧ 0 ≤ k ∧ Q (.int (ns.getD k.toNat 0)) H
noncomputable def sp__law_draws (K : PySem.W.Frag) (_ : ClA) : Sp := fun vs H Q _ => ∃ (a : Addr) (ns : List Int) (t m : Int), vs = [.ref a, .int t, .int m] ∧ SqL K H a (ns.map V.int) ∧ ns.length ≤ 63 ∧ 0 ≤ t ∧ t ≤ 1000 ∧ 0 ≤ m ∧ m ≤ 1000 ∧
  ∀ (p : Addr) (xs : List Int) (H' : Hp), Same H H' → H p = none → H' p = some (.lst (xs.map V.int)) → xs.length = m.toNat → (∀ x ∈ xs, 0 ≤ x ∧ x < 2147483587) → Q (.ref p) H'
noncomputable def sp__law_cuts (K : PySem.W.Frag) (_ : ClA) : Sp := fun vs H Q _ => ∃ (a : Addr) (ns : List Int) (n : Nat) (t : Int), vs = [.ref a, .int n, .int t] ∧ SqL K H a (ns.map V.int) ∧ ns.length ≤ 63 ∧ n ≤ 40 ∧ 0 ≤ t ∧ t ≤ 900 ∧
  ∀ (p : Addr) (ps : List Pair) (H' : Hp), Same H H' → H p = none → PLs H' p ps → ∀ t : Bt, t.size = n → ps.Perm (inT t 0) → ps.Pairwise leP → Q (.ref p) H'
noncomputable def sp__law_number (K : PySem.W.Frag) (_ : ClA) : Sp := fun vs H Q _ => ∃ d c t : Int, vs = [.int d, .int c, .int t] ∧ 0 ≤ t ∧ ∀ n : Int, Q (.int n) H
noncomputable def sp__law_pair (K : PySem.W.Frag) (_ : ClA) : Sp := fun vs H Q _ => ∃ (d c : Int) (u : Addr) (p : Pair), vs = [.int d, .int c, .ref u] ∧ 0 < c ∧ H u = some (.tup [.int p.1, .int p.2]) ∧ ∀ (v : Addr) (r : Pair) (H' : Hp), Same H H' → H' v = some (.tup [.int r.1, .int r.2]) → Q (.ref v) H'
noncomputable def sp__law_changed (K : PySem.W.Frag) (_ : ClA) : Sp := fun vs H Q _ => ∃ (l d : Addr) (ps : List Pair) (xs : List Int) (c far t : Int), vs = [.ref l, .int c, .ref d, .int far, .int t] ∧ 1 ≤ c ∧ PLs H l ps ∧ H d = some (.lst (xs.map V.int)) ∧ l ≠ d ∧ 0 < ps.length ∧ ps.length ≤ 40 ∧ xs.length = 4 ∧ 2 ≤ t ∧ t ≤ 9 ∧
  ∀ (p : Addr) (ms : List Pair) (H' : Hp), But l H H' → (p = l ∨ H p = none) → PLs H' p ms → ms.length ≤ 41 → Q (.ref p) H'
noncomputable def sp__law_by_chance (K : PySem.W.Frag) (_ : ClA) : Sp := fun vs H Q _ => ∃ (a : Addr) (ns : List Int), vs = [.ref a] ∧ SqL K H a (ns.map V.int) ∧ ns.length ≤ 63 ∧
  ∀ (u p : Addr) (c : Int) (ms : List Pair) (H' : Hp), Same H H' → H p = none → H' u = some (.tup [.int c, .ref p]) → PLs H' p ms → ms.length ≤ 40 → Q (.ref u) H'
noncomputable def sp__law_crossing (K : PySem.W.Frag) (_ : ClA) : Sp := fun vs H Q _ => ∃ (l : Addr) (ps : List Pair), vs = [.ref l] ∧ PLs H l ps ∧ Q (.bl (crossB ps)) H
noncomputable def sp__law_stand (K : PySem.W.Frag) (_ : ClA) : Sp := fun vs H Q _ => ∃ (l : Addr) (c : Int) (ps : List Pair), vs = [.int c, .ref l] ∧ PLs H l ps ∧ ps.length ≤ 60 ∧ Q (.bl (flB c ps)) H
noncomputable def sp_Floors__Family___init__ (_ : PySem.W.Frag) (ca : ClA) : Sp := fun vs H Q _ => ∃ (x dx : Addr) (w : Str) (l : Int), vs = [.ref x, .str w, .int l] ∧ H x = some (.ins ca.C_Floors dx []) ∧ ∀ (fs : List (Str × V)) (H' : Hp), H' = upd H x (.ins ca.C_Floors dx fs) → Flds fs w l → Q .non H'
noncomputable def sp_Floors__SplitFamily___init__ (_ : PySem.W.Frag) (ca : ClA) : Sp := fun vs H Q _ => ∃ (x dx : Addr) (w : Str), vs = [.ref x, .str w] ∧ H x = some (.ins ca.C_Floors dx []) ∧ ∀ (fs : List (Str × V)) (H' : Hp), H' = upd H x (.ins ca.C_Floors dx fs) → Flds fs w 0 → Q .non H'
noncomputable def sp_Floors____init__ (_ : PySem.W.Frag) (ca : ClA) : Sp := fun vs H Q _ => ∃ x dx, vs = [.ref x] ∧ H x = some (.ins ca.C_Floors dx []) ∧ ∀ (fs : List (Str × V)) (H' : Hp), H' = upd H x (.ins ca.C_Floors dx fs) → Flds fs "floor" 0 → Q .non H'
noncomputable def sp_any_cross (K : PySem.W.Frag) (_ : ClA) : Sp := fun vs H Q _ => ∃ (l : Addr) (ps : List Pair), vs = [.ref l] ∧ PLs H l ps ∧ Q (.bl (crossB ps)) H
noncomputable def sp_may_be_cut (K : PySem.W.Frag) (_ : ClA) : Sp := fun vs H Q _ => ∃ (c a b : Int), vs = [.int c, .int a, .int b] ∧ ∀ H', Same H H' → Q (.bl (cutB c (a, b))) H'
noncomputable def sp_Floors__is_one (K : PySem.W.Frag) (_ : ClA) : Sp := fun vs H Q _ => ∃ (x t l : Addr) (c : Int) (ps : List Pair), vs = [.ref x, .ref t] ∧ H t = some (.tup [.int c, .ref l]) ∧ PLs H l ps ∧ ps.length ≤ 60 ∧ ∀ H', Same H H' → Q (.bl (flB c ps)) H'
noncomputable def sp_Floors__Family_refuse_other (K : PySem.W.Frag) (ca : ClA) (er : Er1) : Sp := fun vs H Q E => ∃ (x dx : Addr) (fs : List (Str × V)) (t l : Addr) (c : Int) (ps : List Pair), vs = [.ref x, .ref t] ∧ H x = some (.ins ca.C_Floors dx fs) ∧ Flds fs "floor" 0 ∧ H t = some (.tup [.int c, .ref l]) ∧ PLs H l ps ∧ ps.length ≤ 60 ∧ flB c ps = false ∧ ∀ H', Same H H' → E (.ref er.thing) none H'
noncomputable def sp_Floors__Family_number_of (K : PySem.W.Frag) (ca : ClA) (er : Er1) : Sp := fun vs H Q E => ∃ (x dx : Addr) (fs : List (Str × V)) (t l : Addr) (c : Int) (ps : List Pair), vs = [.ref x, .ref t] ∧ H x = some (.ins ca.C_Floors dx fs) ∧ Flds fs "floor" 0 ∧ H t = some (.tup [.int c, .ref l]) ∧ PLs H l ps ∧ ps.length ≤ 60 ∧ flB c ps = false ∧ ∀ H', Same H H' → E (.ref er.thing) none H'
noncomputable def sp_Floors__Family_next_of (K : PySem.W.Frag) (ca : ClA) (er : Er1) : Sp := fun vs H Q E => ∃ (x dx : Addr) (fs : List (Str × V)) (t l : Addr) (c : Int) (ps : List Pair), vs = [.ref x, .ref t] ∧ H x = some (.ins ca.C_Floors dx fs) ∧ Flds fs "floor" 0 ∧ H t = some (.tup [.int c, .ref l]) ∧ PLs H l ps ∧ ps.length ≤ 60 ∧ flB c ps = false ∧ ∀ H', Same H H' → E (.ref er.thing) none H'
noncomputable def sp__law_refused (K : PySem.W.Frag) (ca : ClA) (er : Er1) : Sp := fun vs H Q _ => ∃ (x dx : Addr) (fs : List (Str × V)) (l : Addr) (c : Int) (ps : List Pair), vs = [.ref x, .int c, .ref l] ∧ H x = some (.ins ca.C_Floors dx fs) ∧ Flds fs "floor" 0 ∧ PLs H l ps ∧ ps.length ≤ 60 ∧ flB c ps = false ∧ ∀ H', Same H H' → Q (.bl true) H'
noncomputable def sp_Floors__size_of (K : PySem.W.Frag) (_ : ClA) : Sp := fun vs H Q _ => ∃ (x t : Addr) (l : V) (c : Int), vs = [.ref x, .ref t] ∧ H t = some (.tup [.int c, l]) ∧ Q (.int (c - 2)) H
noncomputable def sp_law (K : PySem.W.Frag) (_ : ClA) (_ : Er1) : Sp := fun vs H Q _ => ∃ (a : Addr) (ns : List Int), vs = [.ref a] ∧ SqL K H a (ns.map V.int) ∧ ns.length ≤ 63 ∧ ∀ H', Q (.bl true) H'
section
variable {P : Program} {w : World} {K : PySem.W.Frag} {mg : Str → Option Value} {base : Heap}
theorem ok__law_cell_at {er : Er1} (EO : Er1Ok K mg er) {ca : ClA} (CA : ClOk K mg ca) {f : Addr} {fd : FuncData} (F : Fun K "_law_cell_at" "_law_cell_at" s__law_cell_at f fd) (m_len : mg "len" = none) : FnOk P w K mg base CX0 1 f fd ["_law_script", "_law_k"] (sp__law_cell_at K ca) := by
  refine F.ok sc__law_cell_at (fun vs H Q E h => ?_) (fun cdv A outer s H vs Q E hr h => ?_)
  · obtain ⟨a, ns, k, rfl, hS, h0, q⟩ := h
    rfl
  obtain ⟨a, ns, k, rfl, hS, h0, q⟩ := h
  refine ⟨_, pss_cons (ps_if (pt_cmpR op_lt (pv 1) (pe_callB call_len_seq rfl m_len bb_len (pa_cons (pv 0) pa_nil)) (nomark _)) (pss_one (ps_ret (pe_ix ix_list (pv 0) (pv 1) (fun _ _ => rfl)))) pss_nil)
    (pss_one (ps_ret pe_int)), ?_⟩
  have hl : (ns.map V.int).length = ns.length := List.length_map _
  refine ⟨_, rfl, _, rfl, a, _, rfl, .inl hS, _, _, rfl, rfl, _, rfl, ite2 (fun c => ?_) (fun c => ?_)⟩
  · have c' : k < (((ns.map V.int).length : Nat) : Int) := of_decide_eq_true c
    rw [hl] at c'
    exact ⟨_, rfl, _, rfl, a, _, _, _, rfl, rfl, hS, atI_int h0 c', q⟩
  · have c' : ¬ k < (((ns.map V.int).length : Nat) : Int) := of_decide_eq_false (Bool.eq_false_iff.mpr c)
    rw [hl] at c'
    have e : ns.getD k.toNat 0 = 0 := by rw [List.getD_eq_getElem?_getD, List.getElem?_eq_none (by omega)]; rfl
    rw [e] at q
    exact q
theorem ok__law_draws {er : Er1} (EO : Er1Ok K mg er) {ca : ClA} (CA : ClOk K mg ca) {f : Addr} {fd : FuncData} (F : Fun K "_law_draws" "_law_draws" s__law_draws f fd) (m_range : mg "range" = none) (m_len : mg "len" = none) : FnOk P w K mg base CX0 1 f fd ["_law_script", "_law_turn", "_law_many"] (sp__law_draws K ca) := by
  refine F.ok sc__law_draws (fun vs H Q E h => ?_) (fun cdv A outer s H vs Q E hr h => ?_)
  · obtain ⟨a, ns, t, m, rfl, hS, h63, t0, t1, m0, m1, q⟩ := h
    rfl
  obtain ⟨a, ns, t, m, rfl, hS, h63, t0, t1, m0, m1, q⟩ := h
  refine ⟨_, pss_cons (ps_set (i := 3) sc__law_draws.nd rfl (Or.inl rfl) (pe_op op_cat (pe_slice sl_list (pv 0) po_none (po_some pe_int)) (pe_lst (pa_cons (pv 1) pa_nil))))
    (pss_cons (ps_set (i := 4) sc__law_draws.nd rfl (Or.inl rfl) (pe_lst pa_nil))
    (pss_cons (ps_if (pt_cmpR op_eq (pe_op op_mod (pe_op op_fdivL (pe_ix ix_list (pv 3) pe_int (fun _ _ => rfl)) pe_int) pe_int) pe_int (nomark _)) (pss_cons (ps_setComp (i := 5) sc__law_draws.nd rfl (Or.inl rfl) rfl rfl (pi_list (pv 3)) rfl rfl rfl rfl (N := ["_law_cell"]) (.own .nil) (fun _ _ _ _ _ _ => (pg_name (i := 0) (by show List.Nodup (["_law_cell"] : List Str); decide +kernel) rfl (Or.inl rfl))) (fun _ _ _ _ _ _ => pts_nil) (fun _ _ _ _ _ _ => (pe_op op_fdivL (pv 0) pe_int)))
    (pss_cons (ps_for PassesOwn.never rfl (pi_range1 rfl m_range (pa_cons (pe_op op_add (pv 1) (pv 2)) pa_nil)) (pg_name (i := 6) sc__law_draws.nd rfl (Or.inl rfl)) (pss_cons (ps_set (i := 7) sc__law_draws.nd rfl (Or.inl rfl) (pe_op op_mod (pv 6) (pe_callB call_len_seq rfl m_len bb_len (pa_cons (pv 5) pa_nil))))
    (pss_cons (ps_if (pt_cmpR op_ge (pv 6) (pv 1) (nomark _)) (pss_one (ps_expr (pe_bm PySem.F.plainAttrs_list PySem.F.slot_list_append PySem.F.type_list_append mt_append (pv 4) (pa_cons (pe_op op_mod (pe_ix ix_list (pv 5) (pv 7) (fun _ _ => rfl)) pe_int) pa_nil)))) pss_nil)
    (pss_one (ps_asg (pe_op op_fdivL (pe_ix ix_list (pv 5) (pv 7) (fun _ _ => rfl)) pe_int) (pg_sub (pv 5) (pv 7) set_list))))))
    (pss_one (ps_ret (pv 4))))) pss_nil)
    (pss_cons (ps_for PassesOwn.never rfl (pi_range1 rfl m_range (pa_cons (pv 2) pa_nil)) (pg_name (i := 6) sc__law_draws.nd rfl (Or.inl rfl)) (pss_cons (ps_set (i := 8) sc__law_draws.nd rfl (Or.inl rfl) (pe_op op_add (pe_op op_mul (pe_op op_mul (pe_op op_add (pv 6) (pv 1)) (pe_op op_add (pv 6) (pv 1))) pe_int) pe_int))
    (pss_cons (ps_set (i := 9) sc__law_draws.nd rfl (Or.inl rfl) (pe_op op_mod (pe_op op_mul (pe_op op_add (pe_op op_mod (pe_ix ix_list (pv 3) (pe_op op_mod (pv 6) (pe_callB call_len_seq rfl m_len bb_len (pa_cons (pv 3) pa_nil))) (fun _ _ => rfl)) pe_int) (pv 8)) pe_int) pe_int))
    (pss_cons (ps_set (i := 9) sc__law_draws.nd rfl (Or.inl rfl) (pe_op op_mod (pe_op op_add (pe_op op_mul (pv 9) (pv 9)) (pe_op op_mul pe_int (pv 6))) pe_int))
    (pss_one (ps_expr (pe_bm PySem.F.plainAttrs_list PySem.F.slot_list_append PySem.F.type_list_append mt_append (pv 4) (pa_cons (pe_op op_mod (pe_op op_mul (pv 9) (pv 9)) pe_int) pa_nil))))))))
    (pss_one (ps_ret (pv 4)))))), ?_⟩
  have M : ∀ x : Int, 0 ≤ x % 2147483587 ∧ x % 2147483587 < 2147483587 := fun x => ⟨Int.emod_nonneg x (by decide), Int.emod_lt_of_pos x (by decide)⟩
  refine ⟨_, rfl, _, rfl, a, _, rfl, hS, fun p1 hp1 => ⟨_, rfl, (by show 1 ≤ sizeLine; decide), fun p2 hp2 => ?_⟩⟩
  have n12 : p1 ≠ p2 := ne_of_none upd_same hp2
  have s1 := Same.new (Same.refl H) hp1 (.lst (cutV (ns.map V.int) none (some 63)))
  have s2 := Same.new s1 hp2 (.lst [.int t])
  have lc : (cutI ns none (some 63)).length ≤ 63 := Nat.le_trans (cutI_length _ _ _) h63
  refine ⟨p1, p2, _, _, rfl, rfl, (upd_ne n12).trans upd_same, upd_same, ?_, fun pc hpc => ?_⟩
  · rw [cutV_map, List.length_map]; exact sz (by simp; omega)
  have s3 := Same.new s2 hpc (.lst (cutV (ns.map V.int) none (some 63) ++ [.int t]))
  have ecs : cutV (ns.map V.int) none (some 63) ++ [.int t] = (cutI ns none (some 63) ++ [t]).map V.int := by rw [cutV_map, List.map_append]; rfl
  have lcs : 1 ≤ (cutI ns none (some 63) ++ [t]).length ∧ (cutI ns none (some 63) ++ [t]).length ≤ 64 := by rw [List.length_append]; constructor <;> simp <;> omega
  rw [ecs] at s3 ⊢
  generalize hH3 : upd (upd (upd H p1 (.lst (cutV (ns.map V.int) none (some 63)))) p2 (.lst [.int t])) pc (.lst ((cutI ns none (some 63) ++ [t]).map V.int)) = H3 at s3 ⊢
  have hc3 : H3 pc = some (.lst ((cutI ns none (some 63) ++ [t]).map V.int)) := by rw [← hH3]; exact upd_same
  generalize cutI ns none (some 63) ++ [t] = cs at hc3 lcs ⊢
  refine ⟨Nat.zero_le _, fun pf hpf => ?_⟩
  have s4 := Same.new s3 hpf (.lst [])
  have fpf : H pf = none := s3.free hpf
  have ncf : pc ≠ pf := ne_of_none hc3 hpf
  have hc4 : upd H3 pf (.lst []) pc = some (.lst (cs.map V.int)) := (upd_ne ncf).trans hc3
  have hf4 : upd H3 pf (.lst []) pf = some (.lst (([] : List Int).map V.int)) := upd_same
  generalize upd H3 pf (.lst []) = H4 at s4 hc4 hf4 ⊢
  have at0 := atI_int (ns := cs) (i := 0) (by decide) (by omega)
  have lm : (cs.map V.int).length = cs.length := List.length_map _
  refine ⟨_, rfl, pc, _, _, _, rfl, rfl, SqL.of hc4, at0, _, _, rfl, rfl, ⟨by decide, by decide +kernel⟩, _, _, rfl, rfl, pm (by decide), rfl, _, rfl, ite2 (fun _ => ?_) (fun _ => ?_)⟩
  · refine ⟨_, rfl, pc, rfl, ⟨_, SqL.of hc4⟩, fun D hD => comp_list (fun v => match v with | .int c => .int (c / 100000) | v => v) (by rw [lm]; exact sz (by omega)) (SqL.of hc4) hD (fun i x H' R R0 hx hb hR => ?_) ?_⟩
    · obtain ⟨c, rfl⟩ := get_int hx
      exact ⟨Ext.set rfl, ttN (iteT ⟨_, rfl, _, _, rfl, rfl, ⟨by decide, by decide +kernel⟩, hR⟩)⟩
    · have fD : H D = none := s4.free hD
      have nfD : pf ≠ D := ne_of_none hf4 hD
      have el : (cs.map V.int).map (fun v => match v with | .int c => V.int (c / 100000) | v => v) = (cs.map (· / 100000)).map V.int := by rw [List.map_map, List.map_map]; rfl
      rw [el]
      refine ⟨_, rfl, _, rfl, _, _, rfl, rfl, _, rfl, by omega, by omega, for_range (lo := 0) (n := (t + m).toNat) (fun i σ H' => ∃ (o1 o2 o3 o4 : Option V) (ls fs : List Int), σ = [some (.ref a), some (.int t), some (.int m), some (.ref pc), some (.ref pf), some (.ref D), o1, o2, o3, o4] ∧ Same H H' ∧ H' D = some (.lst (ls.map V.int)) ∧ ls.length = cs.length ∧ H' pf = some (.lst (fs.map V.int)) ∧ fs.length = i - t.toNat ∧ ∀ x ∈ fs, 0 ≤ x ∧ x < 2147483587)
        ⟨_, _, _, _, _, [], rfl, Same.new s4 hD _, upd_same, by simp, (upd_ne nfD).trans hf4, by simp, by simp⟩ ?_ ?_⟩
      · rintro i σ H5 hi ⟨o1, o2, o3, o4, ls, fs, rfl, sm, hl, ll, hf, lf, bf⟩
        have lml : (ls.map V.int).length = ls.length := List.length_map _
        have pos : (0 : Int) < (((ls.map V.int).length : Nat) : Int) := by rw [lml]; omega
        have k0 := Int.emod_nonneg ((0 : Int) + (i : Int)) (show (((ls.map V.int).length : Nat) : Int) ≠ 0 by omega)
        have k1 := Int.emod_lt_of_pos ((0 : Int) + (i : Int)) pos
        refine ⟨_, rfl, _, rfl, D, _, rfl, .inl (SqL.of hl), _, _, rfl, rfl, pos, ?_⟩
        try dsimp only
        generalize ((0 : Int) + (i : Int)) % (((ls.map V.int).length : Nat) : Int) = k at k0 k1 ⊢
        rw [lml] at k1
        have atk := atI_int (ns := ls) (i := k) k0 k1
        refine ⟨_, rfl, _, rfl, _, _, rfl, rfl, _, rfl, ite2 (fun c => ?_) (fun c => ?_)⟩
        · have c' : t ≤ (0 : Int) + (i : Int) := of_decide_eq_true c
          refine ⟨_, rfl, .inl ⟨rfl, _, SqL.of hf⟩, _, rfl, _, rfl, D, _, _, _, rfl, rfl, SqL.of hl, atk, _, _, rfl, rfl, pm (by decide), pf, _, _, rfl, rfl, hf, by rw [List.length_map]; exact sz' (by omega), ?_⟩
          have hl6 : upd H5 pf (.lst (fs.map V.int ++ [.int (ls.getD k.toNat 0 % 2147483587)])) D = some (.lst (ls.map V.int)) := (upd_ne (Ne.symm nfD)).trans hl
          refine ⟨_, rfl, _, rfl, D, _, _, _, rfl, rfl, SqL.of hl6, atk, _, _, rfl, rfl, ⟨by decide, by decide +kernel⟩, _, rfl, _, rfl, D, _, _, _, rfl, rfl, hl6, ixN_nat k0 (by rw [lml]; exact k1), ?_⟩
          refine ⟨_, _, _, _, ls.set k.toNat (ls.getD k.toNat 0 / 2147483587), fs ++ [ls.getD k.toNat 0 % 2147483587], rfl, (sm.upd fpf _).upd fD _, ?_, by simpa using ll, ?_, by simp [lf]; omega, ?_⟩
          · rw [upd_same, List.map_set]
          · rw [upd_ne nfD, upd_same, List.map_append]; rfl
          · intro x hx
            rcases List.mem_append.mp hx with z | z
            · exact bf x z
            · have : x = ls.getD k.toNat 0 % 2147483587 := by simpa using z
              rw [this]; exact M _
        · have c' : ¬ t ≤ (0 : Int) + (i : Int) := of_decide_eq_false (Bool.eq_false_iff.mpr c)
          refine ⟨_, rfl, _, rfl, D, _, _, _, rfl, rfl, SqL.of hl, atk, _, _, rfl, rfl, ⟨by decide, by decide +kernel⟩, _, rfl, _, rfl, D, _, _, _, rfl, rfl, hl, ixN_nat k0 (by rw [lml]; exact k1), ?_⟩
          refine ⟨_, _, _, _, ls.set k.toNat (ls.getD k.toNat 0 / 2147483587), fs, rfl, sm.upd fD _, ?_, by simpa using ll, (upd_ne nfD).trans hf, by omega, bf⟩
          rw [upd_same, List.map_set]
      · rintro σ H5 ⟨o1, o2, o3, o4, ls, fs, rfl, sm, hl, ll, hf, lf, bf⟩
        exact ⟨_, rfl, q pf fs H5 sm fpf hf (by omega) bf⟩
  · refine ⟨_, rfl, _, rfl, by omega, by omega, for_range (lo := 0) (n := m.toNat) (fun i σ H' => ∃ (o1 o2 o3 o4 o5 : Option V) (fs : List Int), σ = [some (.ref a), some (.int t), some (.int m), some (.ref pc), some (.ref pf), o1, o2, o3, o4, o5] ∧ Same H H' ∧ H' pc = some (.lst (cs.map V.int)) ∧ H' pf = some (.lst (fs.map V.int)) ∧ fs.length = i ∧ ∀ x ∈ fs, 0 ≤ x ∧ x < 2147483587)
      ⟨_, _, _, _, _, [], rfl, s4, hc4, hf4, rfl, by simp⟩ ?_ ?_⟩
    · rintro i σ H5 hi ⟨o1, o2, o3, o4, o5, fs, rfl, sm, hc, hf, lf, bf⟩
      have pos : (0 : Int) < (((cs.map V.int).length : Nat) : Int) := by rw [lm]; omega
      have k0 := Int.emod_nonneg ((0 : Int) + (i : Int)) (show (((cs.map V.int).length : Nat) : Int) ≠ 0 by omega)
      have k1 := Int.emod_lt_of_pos ((0 : Int) + (i : Int)) pos
      have atk := atI_int (ns := cs) (i := ((0 : Int) + (i : Int)) % (((cs.map V.int).length : Nat) : Int)) k0 (by rw [← lm]; exact k1)
      refine ⟨_, rfl, _, rfl, _, _, rfl, rfl, _, rfl, _, rfl, _, _, rfl, rfl, _, _, rfl, rfl, .inl ⟨by omega, by omega⟩, _, _, rfl, rfl, .inr ⟨by decide, by decide⟩, _, _, rfl, rfl, ?_⟩
      refine ⟨_, rfl, _, rfl, _, rfl, pc, _, rfl, .inl (SqL.of hc), _, _, rfl, rfl, pos, pc, _, _, _, rfl, rfl, SqL.of hc, atk, _, _, rfl, rfl, pm (by decide), _, rfl, _, _, rfl, rfl, _, _, rfl, rfl, .inr ⟨by decide, by decide⟩, _, _, rfl, rfl, pm (by decide), ?_⟩
      try dsimp only
      generalize hnu : (cs.getD (((0 : Int) + (i : Int)) % (((cs.map V.int).length : Nat) : Int)).toNat 0 % 2147483647 + (((0 : Int) + (i : Int) + t) * ((0 : Int) + (i : Int) + t) * 7919 + 104729)) * 48271 % 2147483647 = nu
      have b0 : 0 ≤ nu := by rw [← hnu]; exact Int.emod_nonneg _ (by decide)
      have b1 : nu < 2147483647 := by rw [← hnu]; exact Int.emod_lt_of_pos _ (by decide)
      refine ⟨_, rfl, _, rfl, _, _, rfl, rfl, .inl ⟨by omega, by omega⟩, _, rfl, _, _, rfl, rfl, .inl ⟨by decide, by decide⟩, _, _, rfl, rfl, _, _, rfl, rfl, pm (by decide), ?_⟩
      try dsimp only
      generalize hnv : (nu * nu + 69621 * ((0 : Int) + (i : Int))) % 2147483629 = nv
      have d0 : 0 ≤ nv := by rw [← hnv]; exact Int.emod_nonneg _ (by decide)
      have d1 : nv < 2147483629 := by rw [← hnv]; exact Int.emod_lt_of_pos _ (by decide)
      refine ⟨_, rfl, .inl ⟨rfl, _, SqL.of hf⟩, _, rfl, _, rfl, _, _, rfl, rfl, .inl ⟨by omega, by omega⟩, _, _, rfl, rfl, pm (by decide), pf, _, _, rfl, rfl, hf, by rw [List.length_map]; exact sz' (by omega), ?_⟩
      refine ⟨_, _, _, _, _, fs ++ [nv * nv % 2147483587], rfl, sm.upd fpf _, (upd_ne ncf).trans hc, ?_, by simp [lf], ?_⟩
      · rw [upd_same, List.map_append]; rfl
      · intro y hy
        rcases List.mem_append.mp hy with z | z
        · exact bf y z
        · have : y = nv * nv % 2147483587 := by simpa using z
          rw [this]; exact M _
    · rintro σ H5 ⟨o1, o2, o3, o4, o5, fs, rfl, sm, hc, hf, lf, bf⟩
      exact ⟨_, rfl, q pf fs H5 sm fpf hf lf bf⟩
theorem ok__law_cuts {er : Er1} (EO : Er1Ok K mg er) {ca : ClA} (CA : ClOk K mg ca) {f : Addr} {fd : FuncData} (F : Fun K "_law_cuts" "_law_cuts" s__law_cuts f fd) {f0 : Addr} {fd0 : FuncData} (d__law_draws : Def P w K mg base "_law_draws" ["_law_script", "_law_turn", "_law_many"] 1 (sp__law_draws K ca) f0 fd0) (m_len : mg "len" = none) (m_sorted : mg "sorted" = none) : FnOk P w K mg base CX0 2 f fd ["_law_script", "_law_size", "_law_turn"] (sp__law_cuts K ca) := by
  refine F.ok sc__law_cuts (fun vs H Q E h => ?_) (fun cdv A outer s H vs Q E hr h => ?_)
  · obtain ⟨a, ns, n, t, rfl, hS, h63, hn, t0, t1, q⟩ := h
    rfl
  obtain ⟨a, ns, n, t, rfl, hS, h63, hn, t0, t1, q⟩ := h
  refine ⟨_, pss_cons (ps_set (i := 3) sc__law_cuts.nd rfl (Or.inl rfl) (pcall d__law_draws hr (pa_cons (pv 0) (pa_cons (pv 2) (pa_cons (pe_op op_add (pv 1) pe_int) pa_nil)))))
    (pss_cons (ps_set (i := 4) sc__law_cuts.nd rfl (Or.inl rfl) (pe_op op_mod (pe_ix ix_list (pv 3) (pv 1) (fun _ _ => rfl)) pe_int))
    (pss_cons (ps_set (i := 5) sc__law_cuts.nd rfl (Or.inl rfl) (pe_lst pa_nil))
    (pss_cons (ps_set (i := 6) sc__law_cuts.nd rfl (Or.inl rfl) (pe_lst (pa_cons (pe_tup (pa_cons pe_int (pa_cons (pe_op op_add (pv 1) pe_int) pa_nil))) pa_nil)))
    (pss_cons (ps_set (i := 7) sc__law_cuts.nd rfl (Or.inl rfl) pe_int)
    (pss_cons (ps_while PassesOwn.never (pt_cmpR op_gt (pe_callB call_len_seq rfl m_len bb_len (pa_cons (pv 6) pa_nil)) pe_int (nomark _)) (pss_cons (ps_asg (pe_bm0 PySem.F.plainAttrs_list PySem.F.slot_list_pop PySem.F.type_list_pop mt_pop (pv 6)) (pg_tup rfl (pgs_cons (pg_name (i := 8) sc__law_cuts.nd rfl (Or.inl rfl)) (pgs_cons (pg_name (i := 9) sc__law_cuts.nd rfl (Or.inl rfl)) pgs_nil))))
    (pss_one (ps_if (pt_cmpR op_gt (pe_op op_sub (pv 9) (pv 8)) pe_int (nomark _)) (pss_cons (ps_set (i := 10) sc__law_cuts.nd rfl (Or.inl rfl) (pe_op op_add (pe_op op_add (pv 8) pe_int) (pe_op op_mod (pe_op op_fdivL (pe_ix ix_list (pv 3) (pv 7) (fun _ _ => rfl)) pe_int) (pe_op op_sub (pe_op op_sub (pv 9) (pv 8)) pe_int))))
    (pss_cut (ps_if (PW.pt (pw_or (pt_cmpR op_eq (pv 4) pe_int (nomark _)) (pw_or1 (PW.pt (pw_and (pt_cmpR op_gt (pv 4) pe_int (nomark _)) (pw_and1 (pt_cmpR op_eq (pe_op op_mod (pe_ix ix_list (pv 3) (pv 7) (fun _ _ => rfl)) pe_int) pe_int (nomark _)))))))) (pss_one (ps_set (i := 10) sc__law_cuts.nd rfl (Or.inl rfl) (pe_op op_add (pv 8) pe_int))) pss_nil)
    (pss_cut (ps_if (PW.pt (pw_or (pt_cmpR op_eq (pv 4) pe_int (nomark _)) (pw_or1 (PW.pt (pw_and (pt_cmpR op_gt (pv 4) pe_int (nomark _)) (pw_and1 (pt_cmpR op_eq (pe_op op_mod (pe_ix ix_list (pv 3) (pv 7) (fun _ _ => rfl)) pe_int) pe_int (nomark _)))))))) (pss_one (ps_set (i := 10) sc__law_cuts.nd rfl (Or.inl rfl) (pe_op op_sub (pv 9) pe_int))) pss_nil)
    (pss_cons (ps_set (i := 7) sc__law_cuts.nd rfl (Or.inl rfl) (pe_op op_add (pv 7) pe_int))
    (pss_one (ps_for PassesOwn.never rfl (pi_list (pe_lst (pa_cons (pe_tup (pa_cons (pv 8) (pa_cons (pv 10) pa_nil))) (pa_cons (pe_tup (pa_cons (pv 10) (pa_cons (pv 9) pa_nil))) pa_nil)))) (pg_name (i := 11) sc__law_cuts.nd rfl (Or.inl rfl)) (pss_cons (ps_expr (pe_bm PySem.F.plainAttrs_list PySem.F.slot_list_append PySem.F.type_list_append mt_append (pv 6) (pa_cons (pv 11) pa_nil)))
    (pss_one (ps_if (pt_cmpR op_gt (pe_op op_sub (pe_ix ix_tup (pv 11) pe_int (fun _ _ => rfl)) (pe_ix ix_tup (pv 11) pe_int (fun _ _ => rfl))) pe_int (nomark _)) (pss_one (ps_expr (pe_bm PySem.F.plainAttrs_list PySem.F.slot_list_append PySem.F.type_list_append mt_append (pv 5) (pa_cons (pv 11) pa_nil)))) pss_nil))))))))) pss_nil))))
    (pss_one (ps_ret (pe_callB call_sortedP rfl m_sorted bb_sorted (pa_cons (pv 5) pa_nil))))))))), ?_⟩
  have ai0 : ∀ c d : Int, atI [V.int c, .int d] 0 = some (.int c) := fun _ _ => rfl
  have ai1 : ∀ c d : Int, atI [V.int c, .int d] 1 = some (.int d) := fun _ _ => rfl
  refine ⟨_, rfl, _, rfl, _, rfl, _, _, rfl, rfl, a, ns, t, _, rfl, hS, h63, t0, by omega, by omega, by omega, fun pd xs H1 sm1 fd hd lx bx => ?_⟩
  have lx' : xs.length = n + 1 := by omega
  have atz := atI_int (ns := xs) (i := (n : Int)) (by omega) (by omega)
  refine ⟨_, rfl, _, rfl, pd, _, _, _, rfl, rfl, SqL.of hd, atz, _, _, rfl, rfl, pm (by decide), ?_⟩
  try dsimp only
  generalize xs.getD ((n : Int)).toNat 0 % 5 = e
  refine ⟨Nat.zero_le _, fun pc hpc => ?_⟩
  have s2 := Same.new sm1 hpc (.lst [])
  have fpc : H pc = none := sm1.free hpc
  have ndc : pd ≠ pc := ne_of_none hd hpc
  have hd2 := (upd_ne (o := .lst []) ndc).trans hd
  have hc2 : PLs (upd H1 pc (.lst [])) pc [] := ⟨[], upd_same, .nil⟩
  generalize upd H1 pc (.lst []) = H2 at s2 hd2 hc2 ⊢
  refine ⟨_, rfl, _, _, rfl, rfl, (by show 2 ≤ sizeLine; decide), fun t1' ht1 => ⟨(by show 1 ≤ sizeLine; decide), fun pp hpp => ?_⟩⟩
  have k1 := Same.new (Same.refl H2) ht1 (.tup [.int 0, .int ((n : Int) + 1)])
  have k2 := Same.new (Same.refl _) hpp (.lst [.ref t1'])
  have k12 := k1.trans k2
  have s3 := s2.trans k12
  have fpp : H pp = none := (s2.trans k1).free hpp
  have hp3 : PLs (upd (upd H2 t1' (.tup [.int 0, .int ((n : Int) + 1)])) pp (.lst [.ref t1'])) pp [(0, (n : Int) + 1)] := ⟨_, upd_same, .cons ⟨t1', rfl, k2 _ _ upd_same⟩ .nil⟩
  have hd3 := k12 _ _ hd2
  have hc3 := hc2.same k12
  have ndp : pd ≠ pp := ne_of_none (k1 _ _ hd2) hpp
  have ncp : pc ≠ pp := by
    obtain ⟨ys, h, _⟩ := hc2
    exact ne_of_none (k1 _ _ h) hpp
  generalize upd (upd H2 t1' (.tup [.int 0, .int ((n : Int) + 1)])) pp (.lst [.ref t1']) = H3 at s3 hp3 hd3 hc3 ⊢
  have pl1 : plen [((0 : Int), (n : Int) + 1)] = n := by
    unfold plen
    show ((n : Int) + 1 - 0 - 1).toNat + 0 = n
    omega
  refine ⟨fun m σ H' => ∃ (o1 o2 o3 o4 : Option V) (k : Nat) (pl cs : List Pair), σ = [some (.ref a), some (.int n), some (.int t), some (.ref pd), some (.int e), some (.ref pc), some (.ref pp), some (.int (k : Int)), o1, o2, o3, o4] ∧ Same H H' ∧ H' pd = some (.lst (xs.map V.int)) ∧ PLs H' pc cs ∧ PLs H' pp pl ∧ (∀ p ∈ pl, 0 ≤ p.1 ∧ p.1 < p.2 ∧ p.2 ≤ (n : Int) + 1) ∧ k + plen pl = n ∧ cs.length ≤ k + pnon pl ∧ ((∀ c ∈ cs, Cut n c) ∧ PiT n pl cs) ∧ pl.length ≤ k + 1 ∧ m = 2 * plen pl + pl.length,
    ⟨_, _, _, _, _, 0, [(0, (n : Int) + 1)], [], rfl, s3, hd3, hc3, hp3, (fun p hp => by rw [List.mem_singleton.mp hp]; exact ⟨Int.le_refl 0, by show (0 : Int) < (n : Int) + 1; omega, Int.le_refl _⟩), by rw [pl1]; omega, Nat.zero_le _, ⟨(fun c hc => by cases hc), PiT.start n⟩, Nat.le_refl _, rfl⟩, ?_⟩
  rintro m σ H4 ⟨o1, o2, o3, o4, k, pl, cs, rfl, s4, hd4, hc4, hp4, bp, hk, hcs, ⟨cut, pit⟩, hlen, hm⟩
  have pn := pnon_le pl
  obtain ⟨ys, ey, ly, pry⟩ := hp4.len
  refine ⟨_, rfl, pp, _, rfl, .inl (SqL.of ey), _, _, rfl, rfl, _, rfl, ?_⟩
  by_cases hne : pl = []
  · subst hne
    have e0 : plen [] = 0 := rfl
    have e1 : pnon [] = 0 := rfl
    refine iteN (by rw [ly]; simp) ⟨_, rfl, pc, cs, rfl, hc4, by omega, fun p qs H5 s5 f5 h5 pm5 rs5 => ?_⟩
    obtain ⟨tr, etr, ptr⟩ := pit.tree pm5
    exact q p qs H5 (s4.trans s5) (s4.free f5) h5 tr etr ptr rs5
  obtain ⟨pl0, p, rfl⟩ : ∃ pl0 p, pl = pl0 ++ [p] := ⟨pl.dropLast, pl.getLast hne, (List.dropLast_concat_getLast hne).symm⟩
  obtain ⟨zs, tt, rfl, prz, htt⟩ := pry.unsnoc
  have hpos : 0 < (zs ++ [V.ref tt]).length := by simp
  have bpp := bp p (by simp)
  have lpl : (pl0 ++ [p]).length = pl0.length + 1 := by simp
  have plS := plen_snoc pl0 p
  have pnS := pnon_snoc pl0 p
  have b0 : ∀ p ∈ pl0, 0 ≤ p.1 ∧ p.1 < p.2 ∧ p.2 ≤ (n : Int) + 1 := fun p hp => bp p (List.mem_append_left _ hp)
  refine iteP (by omega) ⟨fun σ' H' => ∃ (o1 o2 o3 o4 : Option V) (k : Nat) (pl cs : List Pair), σ' = [some (.ref a), some (.int n), some (.int t), some (.ref pd), some (.int e), some (.ref pc), some (.ref pp), some (.int (k : Int)), o1, o2, o3, o4] ∧ Same H H' ∧ H' pd = some (.lst (xs.map V.int)) ∧ PLs H' pc cs ∧ PLs H' pp pl ∧ (∀ p ∈ pl, 0 ≤ p.1 ∧ p.1 < p.2 ∧ p.2 ≤ (n : Int) + 1) ∧ k + plen pl = n ∧ cs.length ≤ k + pnon pl ∧ ((∀ c ∈ cs, Cut n c) ∧ PiT n pl cs) ∧ pl.length ≤ k + 1 ∧ 2 * plen pl + pl.length < m, ?_, ?_⟩
  · rintro σ' H' ⟨o1, o2, o3, o4, k, pl, cs, rfl, a1, a2, a3, a4, a5, a6, a7, a8, a9, a10⟩
    exact ⟨2 * plen pl + pl.length, a10, o1, o2, o3, o4, k, pl, cs, rfl, a1, a2, a3, a4, a5, a6, a7, a8, a9, rfl⟩
  have hlast : (zs ++ [V.ref tt])[(zs ++ [V.ref tt]).length - 1]? = some (.ref tt) := by
    rw [List.length_append, List.getElem?_append_right (by simp)]
    simp
  have ntp : tt ≠ pp := fun z => by rw [z, ey] at htt; cases htt
  refine ⟨_, rfl, .inl ⟨rfl, _, SqL.of ey⟩, pp, _, _, rfl, rfl, ey, hlast, ?_⟩
  rw [List.dropLast_concat]
  have s5 := s4.upd fpp (.lst zs)
  have hd5 : upd H4 pp (.lst zs) pd = some (.lst (xs.map V.int)) := (upd_ne ndp).trans hd4
  have hc5 : PLs (upd H4 pp (.lst zs)) pc cs := hc4.updL ey ncp _
  have hp5 : PLs (upd H4 pp (.lst zs)) pp pl0 := ⟨zs, upd_same, prz.updL ey _⟩
  have htt5 : upd H4 pp (.lst zs) tt = some (.tup [.int p.1, .int p.2]) := (upd_ne ntp).trans htt
  generalize upd H4 pp (.lst zs) = H5 at s5 hd5 hc5 hp5 htt5 ⊢
  refine ⟨tt, _, rfl, SqT.of htt5, rfl, _, _, rfl, _, _, rfl, rfl, ?_⟩
  refine ⟨_, rfl, _, rfl, _, _, rfl, rfl, _, _, rfl, rfl, _, rfl, ?_⟩
  by_cases hu : p.2 - p.1 > 1
  · rw [if_pos hu] at pnS
    have atk := atI_int (ns := xs) (i := (k : Int)) (by omega) (by omega)
    refine iteP hu ⟨_, rfl, _, _, rfl, rfl, _, rfl, _, rfl, pd, _, _, _, rfl, rfl, SqL.of hd5, atk, _, _, rfl, rfl, ⟨by decide, by decide +kernel⟩, _, rfl, _, rfl, _, _, rfl, rfl, _, _, rfl, rfl, _, _, rfl, rfl, by omega, _, _, rfl, rfl, ?_⟩
    have w0 := Int.emod_nonneg (xs.getD ((k : Int)).toNat 0 / 4) (show p.2 - p.1 - 1 ≠ 0 by omega)
    have w1 := Int.emod_lt_of_pos (xs.getD ((k : Int)).toNat 0 / 4) (show (0 : Int) < p.2 - p.1 - 1 by omega)
    try dsimp only
    generalize xs.getD ((k : Int)).toNat 0 / 4 % (p.2 - p.1 - 1) = w at w0 w1 ⊢
    refine ⟨fun σ H' => ∃ (th : Int), σ = [some (.ref a), some (.int n), some (.int t), some (.ref pd), some (.int e), some (.ref pc), some (.ref pp), some (.int (k : Int)), some (.int p.1), some (.int p.2), some (.int th), o4] ∧ H5 = H' ∧ p.1 < th ∧ th < p.2, ?_, ?_⟩
    · refine ⟨_, rfl, rfl, _, rfl, ite2 (fun _ => iteT ⟨_, rfl, _, _, rfl, rfl, _, rfl, rfl, by omega, by omega⟩) (fun _ => ⟨_, rfl, _, _, rfl, rfl, _, rfl, ite2 (fun _ => ?_) (fun _ => iteF ⟨_, rfl, rfl, by omega, by omega⟩)⟩)⟩
      exact ⟨_, rfl, _, rfl, pd, _, _, _, rfl, rfl, SqL.of hd5, atk, _, _, rfl, rfl, pm (by decide), rfl, _, rfl, ite2 (fun _ => ⟨_, rfl, _, _, rfl, rfl, _, rfl, rfl, by omega, by omega⟩) (fun _ => ⟨_, rfl, rfl, by omega, by omega⟩)⟩
    rintro σ H6 ⟨th, rfl, rfl, h1, h2⟩
    refine ⟨fun σ H' => ∃ (th : Int), σ = [some (.ref a), some (.int n), some (.int t), some (.ref pd), some (.int e), some (.ref pc), some (.ref pp), some (.int (k : Int)), some (.int p.1), some (.int p.2), some (.int th), o4] ∧ H5 = H' ∧ p.1 < th ∧ th < p.2, ?_, ?_⟩
    · refine ⟨_, rfl, rfl, _, rfl, ite2 (fun _ => iteT ⟨_, rfl, _, _, rfl, rfl, _, rfl, rfl, by omega, by omega⟩) (fun _ => ⟨_, rfl, _, _, rfl, rfl, _, rfl, ite2 (fun _ => ?_) (fun _ => iteF ⟨_, rfl, rfl, h1, h2⟩)⟩)⟩
      exact ⟨_, rfl, _, rfl, pd, _, _, _, rfl, rfl, SqL.of hd5, atk, _, _, rfl, rfl, pm (by decide), rfl, _, rfl, ite2 (fun _ => ⟨_, rfl, _, _, rfl, rfl, _, rfl, rfl, by omega, by omega⟩) (fun _ => ⟨_, rfl, rfl, h1, h2⟩)⟩
    rintro σ H6 ⟨th, rfl, rfl, h1, h2⟩
    refine ⟨_, rfl, _, _, rfl, rfl, ?_⟩
    refine ⟨_, rfl, _, rfl, (by show 2 ≤ sizeLine; decide), fun u1 hu1 => ⟨_, rfl, _, rfl, (by show 2 ≤ sizeLine; decide), fun u2 hu2 => ⟨(by show 2 ≤ sizeLine; decide), fun pf hpf => ?_⟩⟩⟩
    have j1 := Same.new (Same.refl H5) hu1 (.tup [.int p.1, .int th])
    have j2 := Same.new (Same.refl _) hu2 (.tup [.int th, .int p.2])
    have j3 := Same.new (Same.refl _) hpf (.lst [.ref u1, .ref u2])
    have j23 := j2.trans j3
    have j13 := j1.trans j23
    have g1 := j23 _ _ (upd_same (H := H5) (a := u1) (o := .tup [.int p.1, .int th]))
    have g2 := j3 _ _ (upd_same (H := upd H5 u1 (.tup [.int p.1, .int th])) (a := u2) (o := .tup [.int th, .int p.2]))
    have g3 : upd (upd (upd H5 u1 (.tup [.int p.1, .int th])) u2 (.tup [.int th, .int p.2])) pf (.lst [.ref u1, .ref u2]) pf = some (.lst [.ref u1, .ref u2]) := upd_same
    have s6 := s5.trans j13
    have hd6 := j13 _ _ hd5
    have hc6 := hc5.same j13
    have hp6 := hp5.same j13
    have nfc : pf ≠ pc := fun z => by
      obtain ⟨ys, h, _⟩ := hc5
      rw [z, (j1.trans j2) _ _ h] at hpf
      cases hpf
    have nfp : pf ≠ pp := fun z => by
      obtain ⟨ys, h, _⟩ := hp5
      rw [z, (j1.trans j2) _ _ h] at hpf
      cases hpf
    generalize upd (upd (upd H5 u1 (.tup [.int p.1, .int th])) u2 (.tup [.int th, .int p.2])) pf (.lst [.ref u1, .ref u2]) = H6 at g1 g2 g3 s6 hd6 hc6 hp6 ⊢
    have prp : Prs H6 [.ref u1, .ref u2] [(p.1, th), (th, p.2)] := .cons ⟨u1, rfl, g1⟩ (.cons ⟨u2, rfl, g2⟩ .nil)
    have lpl0 : pl0.length ≤ n := by omega
    refine ⟨pf, rfl, ⟨_, SqL.of g3⟩, for_list (xs := [.ref u1, .ref u2]) (fun i σ H' => ∃ (o4 : Option V), σ = [some (.ref a), some (.int n), some (.int t), some (.ref pd), some (.int e), some (.ref pc), some (.ref pp), some (.int ((k : Int) + 1)), some (.int p.1), some (.int p.2), some (.int th), o4] ∧ Same H H' ∧ H' pd = some (.lst (xs.map V.int)) ∧ H' pf = some (.lst [.ref u1, .ref u2]) ∧ Prs H' [.ref u1, .ref u2] [(p.1, th), (th, p.2)] ∧ PLs H' pp (pl0 ++ ([(p.1, th), (th, p.2)] : List Pair).take i) ∧ PLs H' pc (cs ++ (([(p.1, th), (th, p.2)] : List Pair).take i).filter nonU))
      ⟨_, rfl, s6, hd6, g3, prp, by simpa using hp6, by simpa using hc6⟩ (fun i σ H' _ h => by obtain ⟨_, _, _, _, h, _⟩ := h; exact SqL.of h) ?_ ?_⟩
    · rintro i v σ H7 hv ⟨o4, rfl, s7, hd7, hf7, pp7, hp7, hc7⟩
      obtain ⟨pt, tt', hpt, rfl, htt'⟩ := pp7.get hv
      have tk := filter_take nonU hpt
      have l2 : (([(p.1, th), (th, p.2)] : List Pair).take i).length ≤ 2 := by rw [List.length_take]; exact Nat.min_le_right _ _
      obtain ⟨ys7, ey7, ly7, pry7⟩ := hp7.len
      rw [List.length_append] at ly7
      refine ⟨_, rfl, .inl ⟨rfl, _, SqL.of ey7⟩, _, rfl, pp, _, _, rfl, rfl, ey7, sz' (by omega), ?_⟩
      have s8 := s7.upd fpp (.lst (ys7 ++ [.ref tt']))
      have hd8 : upd H7 pp (.lst (ys7 ++ [.ref tt'])) pd = some (.lst (xs.map V.int)) := (upd_ne ndp).trans hd7
      have hf8 : upd H7 pp (.lst (ys7 ++ [.ref tt'])) pf = some (.lst [.ref u1, .ref u2]) := (upd_ne nfp).trans hf7
      have pp8 := pp7.updL ey7 (.lst (ys7 ++ [.ref tt']))
      have hp8 := PLs.put ey7 pry7 htt'
      have hc8 := hc7.updL ey7 ncp (.lst (ys7 ++ [.ref tt']))
      have ht8 : upd H7 pp (.lst (ys7 ++ [.ref tt'])) tt' = some (.tup [.int pt.1, .int pt.2]) := (upd_ne (fun z => by rw [z, ey7] at htt'; cases htt')).trans htt'
      generalize upd H7 pp (.lst (ys7 ++ [.ref tt'])) = H8 at s8 hd8 hf8 pp8 hp8 hc8 ht8 ⊢
      have hp8 : PLs H8 pp (pl0 ++ ([(p.1, th), (th, p.2)] : List Pair).take (i + 1)) := by
        rw [List.take_add_one, hpt, ← List.append_assoc]
        exact hp8
      refine ⟨_, rfl, tt', _, _, _, rfl, rfl, SqT.of ht8, ai1 _ _, _, rfl, tt', _, _, _, rfl, rfl, SqT.of ht8, ai0 _ _, _, _, rfl, rfl, _, _, rfl, rfl, _, rfl, ?_⟩
      by_cases h : pt.2 - pt.1 > 1
      · obtain ⟨ys8, ey8, ly8, pry8⟩ := hc8.len
        rw [List.length_append] at ly8
        have l3 := List.length_filter_le nonU (([(p.1, th), (th, p.2)] : List Pair).take i)
        refine iteP h ⟨_, rfl, .inl ⟨rfl, _, SqL.of ey8⟩, _, rfl, pc, _, _, rfl, rfl, ey8, sz' (by omega), ?_⟩
        refine ⟨_, rfl, s8.upd fpc _, (upd_ne ndc).trans hd8, (upd_ne nfc).trans hf8, pp8.updL ey8 _, hp8.updL ey8 (Ne.symm ncp) _, ?_⟩
        rw [tk, if_pos (show nonU _ = true from decide_eq_true h), ← List.append_assoc]
        exact PLs.put ey8 pry8 ht8
      · refine iteN h ⟨_, rfl, s8, hd8, hf8, pp8, hp8, ?_⟩
        rw [tk, if_neg (by unfold nonU; simpa using h), List.append_nil]
        exact hc8
    · rintro σ H7 ⟨o4, rfl, s7, hd7, hf7, pp7, hp7, hc7⟩
      have hp7 : PLs H7 pp (pl0 ++ [(p.1, th), (th, p.2)]) := hp7
      have hc7 : PLs H7 pc (cs ++ ([(p.1, th), (th, p.2)] : List Pair).filter nonU) := hc7
      have pa := pnon_app pl0 [(p.1, th), (th, p.2)]
      have pb : plen (pl0 ++ [(p.1, th), (th, p.2)]) = plen pl0 + (th - p.1 - 1).toNat + (p.2 - th - 1).toNat := by
        rw [show pl0 ++ [(p.1, th), (th, p.2)] = (pl0 ++ [(p.1, th)]) ++ [(th, p.2)] by simp, plen_snoc, plen_snoc]
      have lc : (pl0 ++ [(p.1, th), (th, p.2)]).length = pl0.length + 2 := by simp
      refine ⟨_, _, _, _, k + 1, pl0 ++ [(p.1, th), (th, p.2)], _, rfl, s7, hd7, hc7, hp7, fun x hx => ?_, by omega, by rw [List.length_append]; omega, ⟨fun c hc => ?_, pit.split h1 h2⟩, by omega, by omega⟩
      · rcases List.mem_append.mp hx with hx | hx
        · exact b0 x hx
        · rcases List.mem_cons.mp hx with hx | hx
          · subst hx; dsimp only; omega
          · rw [List.mem_singleton.mp hx]; dsimp only; omega
      · rcases List.mem_append.mp hc with hc | hc
        · exact cut c hc
        · obtain ⟨hm, hn2⟩ := List.mem_filter.mp hc
          have hn2 : c.2 - c.1 > 1 := of_decide_eq_true hn2
          unfold Cut
          rcases List.mem_cons.mp hm with hx | hx
          · subst hx; dsimp only at hn2 ⊢; omega
          · rw [List.mem_singleton.mp hx] at hn2 ⊢; dsimp only at hn2 ⊢; omega
  · rw [if_neg hu] at pnS
    refine iteN hu ⟨_, _, _, _, k, pl0, cs, rfl, s5, hd5, hc5, hp5, b0, by omega, by omega, ⟨cut, pit.unit bpp.2.1 hu⟩, by omega, by omega⟩
theorem ok__law_number {er : Er1} (EO : Er1Ok K mg er) {ca : ClA} (CA : ClOk K mg ca) {f : Addr} {fd : FuncData} (F : Fun K "_law_number" "_law_number" s__law_number f fd) : FnOk P w K mg base CX0 1 f fd ["_law_draw", "_law_cell", "_law_top"] (sp__law_number K ca) := by
  refine F.ok sc__law_number (fun vs H Q E h => ?_) (fun cdv A outer s H vs Q E hr h => ?_)
  · obtain ⟨d, c, t, rfl, t0, q⟩ := h
    rfl
  obtain ⟨d, c, t, rfl, t0, q⟩ := h
  refine ⟨_, pss_cons (ps_if (pt_cmpR op_eq (pe_op op_mod (pv 0) pe_int) pe_int (nomark _)) (pss_one (ps_ret (pe_op op_mul (pe_op op_mod (pv 1) (pe_op op_pow pe_int pe_int)) (pe_op op_sub pe_int (pe_op op_mul (pe_op op_mod (pe_op op_fdivL (pv 0) pe_int) pe_int) pe_int))))) pss_nil)
    (pss_one (ps_ret (pe_op op_sub (pe_op op_mod (pe_op op_fdivL (pv 0) pe_int) (pe_op op_add (pv 2) pe_int)) pe_int))), ?_⟩
  have e0 := Int.emod_nonneg (d / 4) (show (2 : Int) ≠ 0 by decide)
  have e1 := Int.emod_lt_of_pos (d / 4) (show (0 : Int) < 2 by decide)
  refine ⟨_, rfl, _, _, rfl, rfl, pm (by decide), rfl, _, rfl, ite2 (fun _ => ?_) (fun _ => ?_)⟩
  · refine ⟨_, rfl, _, _, rfl, rfl, ⟨by decide, by decide, by decide⟩, _, _, rfl, rfl, (by show (0 : Int) < 10 ^ 60; decide), _, rfl, _, _, rfl, rfl, ⟨by decide, by decide +kernel⟩, _, _, rfl, rfl, pm (by decide), ?_⟩
    try dsimp only
    generalize d / 4 % 2 = e at e0 e1 ⊢
    exact ⟨_, _, rfl, rfl, .inl ⟨by omega, by omega⟩, _, _, rfl, rfl, _, _, rfl, rfl, .inr ⟨by omega, by omega⟩, q _⟩
  · exact ⟨_, rfl, _, _, rfl, rfl, ⟨by decide, by decide +kernel⟩, _, rfl, _, _, rfl, rfl, _, _, rfl, rfl, by omega, _, _, rfl, rfl, q _⟩
theorem ok__law_pair {er : Er1} (EO : Er1Ok K mg er) {ca : ClA} (CA : ClOk K mg ca) {f : Addr} {fd : FuncData} (F : Fun K "_law_pair" "_law_pair" s__law_pair f fd) (m_max : mg "max" = none) (m_min : mg "min" = none) : FnOk P w K mg base CX0 1 f fd ["_law_draw", "_law_corners", "_law_other"] (sp__law_pair K ca) := by
  refine F.ok sc__law_pair (fun vs H Q E h => ?_) (fun cdv A outer s H vs Q E hr h => ?_)
  · obtain ⟨d, c, u, p, rfl, c0, hu, q⟩ := h
    rfl
  obtain ⟨d, c, u, p, rfl, c0, hu, q⟩ := h
  refine ⟨_, pss_cons (ps_set (i := 3) sc__law_pair.nd rfl (Or.inl rfl) (pe_op op_mod (pe_op op_fdivL (pv 0) pe_int) (pv 1)))
    (pss_cons (ps_set (i := 4) sc__law_pair.nd rfl (Or.inl rfl) (pe_op op_mod (pe_op op_fdivL (pv 0) pe_int) (pv 1)))
    (pss_cons (ps_if (pt_cmpR op_eq (pe_op op_mod (pv 0) pe_int) pe_int (nomark _)) (pss_one (ps_ret (pe_tup (pa_cons pe_int (pa_cons (pe_op op_sub (pv 1) pe_int) pa_nil))))) pss_nil)
    (pss_cons (ps_if (pt_cmpR op_eq (pe_op op_mod (pv 0) pe_int) pe_int (nomark _)) (pss_one (ps_ret (pe_tup (pa_cons (pv 3) (pa_cons (pe_op op_add (pv 3) pe_int) pa_nil))))) pss_nil)
    (pss_cons (ps_if (pt_cmpR op_eq (pe_op op_mod (pv 0) pe_int) pe_int (nomark _)) (pss_one (ps_ret (pv 2))) pss_nil)
    (pss_one (ps_ret (pe_tup (pa_cons (pe_callB (call_min2 rfl) rfl m_min bb_min (pa_cons (pv 3) (pa_cons (pv 4) pa_nil))) (pa_cons (pe_callB (call_max2 rfl) rfl m_max bb_max (pa_cons (pv 3) (pa_cons (pv 4) pa_nil))) pa_nil))))))))), ?_⟩
  refine ⟨_, rfl, _, _, rfl, rfl, ⟨by decide, by decide +kernel⟩, _, rfl, _, _, rfl, rfl, c0, ?_⟩
  try dsimp only
  generalize d / 6 % c = a
  refine ⟨_, rfl, _, _, rfl, rfl, ⟨by decide, by decide +kernel⟩, _, rfl, _, _, rfl, rfl, c0, ?_⟩
  try dsimp only
  generalize d / 6000 % c = b
  refine ⟨_, rfl, _, _, rfl, rfl, pm (by decide), rfl, _, rfl, ite2 (fun _ => ?_) (fun _ => ?_)⟩
  · exact ⟨_, rfl, _, _, rfl, rfl, (by show 2 ≤ sizeLine; decide), fun v hv => q v (0, c - 1) _ (Same.new (Same.refl H) hv _) upd_same⟩
  refine ⟨_, rfl, _, _, rfl, rfl, pm (by decide), rfl, _, rfl, ite2 (fun _ => ?_) (fun _ => ?_)⟩
  · exact ⟨_, rfl, _, rfl, _, _, rfl, rfl, (by show 2 ≤ sizeLine; decide), fun v hv => q v (a, a + 1) _ (Same.new (Same.refl H) hv _) upd_same⟩
  refine ⟨_, rfl, _, _, rfl, rfl, pm (by decide), rfl, _, rfl, ite2 (fun _ => ?_) (fun _ => ?_)⟩
  · exact ⟨_, rfl, q u p _ (Same.refl H) hu⟩
  · exact ⟨_, rfl, _, rfl, _, _, rfl, _, rfl, _, rfl, _, _, rfl, (by show 2 ≤ sizeLine; decide), fun v hv => q v (_, _) _ (Same.new (Same.refl H) hv _) upd_same⟩
theorem ok__law_changed {er : Er1} (EO : Er1Ok K mg er) {ca : ClA} (CA : ClOk K mg ca) {f : Addr} {fd : FuncData} (F : Fun K "_law_changed" "_law_changed" s__law_changed f fd) {f0 : Addr} {fd0 : FuncData} (d__law_number : Def P w K mg base "_law_number" ["_law_draw", "_law_cell", "_law_top"] 1 (sp__law_number K ca) f0 fd0) {f1 : Addr} {fd1 : FuncData} (d__law_pair : Def P w K mg base "_law_pair" ["_law_draw", "_law_corners", "_law_other"] 1 (sp__law_pair K ca) f1 fd1) (m_len : mg "len" = none) (m_sorted : mg "sorted" = none) : FnOk P w K mg base CX0 2 f fd ["_law_cuts_here", "_law_corners", "_law_draws_here", "_law_far", "_law_turn"] (sp__law_changed K ca) := by
  refine F.ok sc__law_changed (fun vs H Q E h => ?_) (fun cdv A outer s H vs Q E hr h => ?_)
  · obtain ⟨l, d, ps, xs, c, far, t, rfl, hc1, hl, hd, nld, h0, h40, lx, t2, t9, q⟩ := h
    rfl
  obtain ⟨l, d, ps, xs, c, far, t, rfl, hc1, hl, hd, nld, h0, h40, lx, t2, t9, q⟩ := h
  refine ⟨_, pss_cons (ps_set (i := 5) sc__law_changed.nd rfl (Or.inl rfl) (pe_op op_mod (pe_ix ix_list (pv 2) pe_int (fun _ _ => rfl)) (pe_callB call_len_seq rfl m_len bb_len (pa_cons (pv 0) pa_nil))))
    (pss_cons (ps_set (i := 6) sc__law_changed.nd rfl (Or.inl rfl) (pe_op op_mod (pe_ix ix_list (pv 2) pe_int (fun _ _ => rfl)) (pe_callB call_len_seq rfl m_len bb_len (pa_cons (pv 0) pa_nil))))
    (pss_cons (ps_asg (pe_ix ix_list (pv 0) (pv 5) (fun _ _ => rfl)) (pg_tup rfl (pgs_cons (pg_name (i := 7) sc__law_changed.nd rfl (Or.inl rfl)) (pgs_cons (pg_name (i := 8) sc__law_changed.nd rfl (Or.inl rfl)) pgs_nil))))
    (pss_cons (ps_if (pt_cmpR op_eq (pv 4) pe_int (nomark _)) (pss_cons (ps_set (i := 9) sc__law_changed.nd rfl (Or.inl rfl) (pcall d__law_number hr (pa_cons (pe_ix ix_list (pv 2) pe_int (fun _ _ => rfl)) (pa_cons (pv 3) (pa_cons (pe_op op_sub (pv 1) pe_int) pa_nil)))))
    (pss_one (ps_asg (pe_ix ix_list (pe_lst (pa_cons (pe_tup (pa_cons (pv 9) (pa_cons (pv 8) pa_nil))) (pa_cons (pe_tup (pa_cons (pv 7) (pa_cons (pv 9) pa_nil))) pa_nil))) (pe_op op_mod (pe_ix ix_list (pv 2) pe_int (fun _ _ => rfl)) pe_int) (fun _ _ => rfl)) (pg_sub (pv 0) (pv 5) set_list)))) pss_nil)
    (pss_cons (ps_if (pt_cmpR op_eq (pv 4) pe_int (nomark _)) (pss_one (ps_ret (pe_callB call_sortedP rfl m_sorted bb_sorted (pa_cons (pe_op op_cat (pe_op op_cat (pe_slice sl_list (pv 0) po_none (po_some (pv 5))) (pe_lst (pa_cons (pcall d__law_pair hr (pa_cons (pe_ix ix_list (pv 2) pe_int (fun _ _ => rfl)) (pa_cons (pv 1) (pa_cons (pe_ix ix_list (pv 0) (pv 6) (fun _ _ => rfl)) pa_nil)))) pa_nil))) (pe_slice sl_list (pv 0) (po_some (pe_op op_add (pv 5) pe_int)) po_none)) pa_nil)))) pss_nil)
    (pss_cons (ps_if (pt_cmpR op_eq (pv 4) pe_int (nomark _)) (pss_one (ps_expr (pe_bm PySem.F.plainAttrs_list PySem.F.slot_list_pop PySem.F.type_list_pop mt_popAt (pv 0) (pa_cons (pv 5) pa_nil)))) pss_nil)
    (pss_cons (ps_if (pt_cmpR op_eq (pv 4) pe_int (nomark _)) (pss_one (ps_expr (pe_bm PySem.F.plainAttrs_list PySem.F.slot_list_insert PySem.F.type_list_insert mt_insert (pv 0) (pa_cons (pv 6) (pa_cons (pe_tup (pa_cons (pv 7) (pa_cons (pv 8) pa_nil))) pa_nil))))) pss_nil)
    (pss_cons (ps_if (pt_cmpR op_eq (pv 4) pe_int (nomark _)) (pss_one (ps_asg (pe_tup (pa_cons (pv 8) (pa_cons (pv 7) pa_nil))) (pg_sub (pv 0) (pv 5) set_list))) pss_nil)
    (pss_cons (ps_if (pt_cmpR op_eq (pv 4) pe_int (nomark _)) (pss_one (ps_ret (pe_callB call_sortedP rfl m_sorted bb_sorted (pa_cons (pe_op op_cat (pv 0) (pe_lst (pa_cons (pcall d__law_pair hr (pa_cons (pe_ix ix_list (pv 2) pe_int (fun _ _ => rfl)) (pa_cons (pv 1) (pa_cons (pe_ix ix_list (pv 0) (pv 6) (fun _ _ => rfl)) pa_nil)))) pa_nil))) pa_nil)))) pss_nil)
    (pss_cons (ps_if (pt_cmpR op_eq (pv 4) pe_int (nomark _)) (pss_cons (ps_asg (pe_ix ix_list (pv 0) (pv 6) (fun _ _ => rfl)) (pg_sub (pv 0) (pv 5) set_list))
    (pss_one (ps_asg (pe_tup (pa_cons (pv 7) (pa_cons (pv 8) pa_nil))) (pg_sub (pv 0) (pv 6) set_list)))) pss_nil)
    (pss_cons (ps_if (pt_cmpR op_eq (pv 4) pe_int (nomark _)) (pss_cons (ps_set (i := 10) sc__law_changed.nd rfl (Or.inr rfl) (pe_ix ix_list (pe_lst (pa_cons pe_int (pa_cons (pe_un un_neg pe_int) pa_nil))) (pe_op op_mod (pe_ix ix_list (pv 2) pe_int (fun _ _ => rfl)) pe_int) (fun _ _ => rfl)))
    (pss_one (ps_ret (pe_comp rfl (pi_list (pv 0)) rfl rfl rfl rfl (N := ["_law_c", "_law_d", "_law_step"]) (.own (.own (.cap (j := 10) rfl rfl rfl .nil))) (fun _ _ _ _ _ _ => (pg_tupK (K := K) (n := 2) rfl rfl (pgs_cons (pg_name (i := 0) (by show List.Nodup (["_law_c", "_law_d", "_law_step"] : List Str); decide +kernel) rfl (Or.inl rfl)) (pgs_cons (pg_name (i := 1) (by show List.Nodup (["_law_c", "_law_d", "_law_step"] : List Str); decide +kernel) rfl (Or.inl rfl)) pgs_nil)))) (fun _ _ _ _ _ _ => pts_nil) (fun _ _ _ _ _ _ => (pe_tup (pa_cons (pe_op op_add (pv 0) (pv 2)) (pa_cons (pe_op op_add (pv 1) (pv 2)) pa_nil)))))))) pss_nil)
    (pss_one (ps_ret (pv 0))))))))))))), ?_⟩
  obtain ⟨ys, el, ly, pr⟩ := hl.len
  have at0 := atI_int (ns := xs) (i := 0) (by decide) (by omega)
  have at1 := atI_int (ns := xs) (i := 1) (by decide) (by omega)
  have at2 := atI_int (ns := xs) (i := 2) (by decide) (by omega)
  have at3 := atI_int (ns := xs) (i := 3) (by decide) (by omega)
  generalize xs.getD (0 : Int).toNat 0 = d0 at at0
  generalize xs.getD (1 : Int).toNat 0 = d1 at at1
  generalize xs.getD (2 : Int).toNat 0 = d2 at at2
  generalize xs.getD (3 : Int).toNat 0 = d3 at at3
  refine ⟨_, rfl, d, _, _, _, rfl, rfl, SqL.of hd, at0, _, rfl, l, _, rfl, .inl (SqL.of el), _, _, rfl, rfl, (by omega), ?_⟩
  try dsimp only
  have a0 := Int.emod_nonneg d0 (show (ys.length : Int) ≠ 0 by omega)
  have a1 := Int.emod_lt_of_pos d0 (show (0 : Int) < (ys.length : Int) by omega)
  generalize d0 % (ys.length : Int) = at_ at a0 a1 ⊢
  refine ⟨_, rfl, d, _, _, _, rfl, rfl, SqL.of hd, at1, _, rfl, l, _, rfl, .inl (SqL.of el), _, _, rfl, rfl, (by omega), ?_⟩
  try dsimp only
  have b0 := Int.emod_nonneg d1 (show (ys.length : Int) ≠ 0 by omega)
  have b1 := Int.emod_lt_of_pos d1 (show (0 : Int) < (ys.length : Int) by omega)
  generalize d1 % (ys.length : Int) = to_ at b0 b1 ⊢
  obtain ⟨pa, ta, hpa, hya, hta⟩ := pr.get (List.getElem?_eq_getElem (show at_.toNat < ys.length by omega))
  have aya : atI ys at_ = some (.ref ta) := by
    have := atI_nat (xs := ys) (j := at_.toNat) (by rw [List.getElem?_eq_getElem (show at_.toNat < ys.length by omega), hya])
    rw [show ((at_.toNat : Nat) : Int) = at_ by omega] at this
    exact this
  obtain ⟨pb, tb, hpb, hyb, htb⟩ := pr.get (List.getElem?_eq_getElem (show to_.toNat < ys.length by omega))
  have ayb : atI ys to_ = some (.ref tb) := by
    have := atI_nat (xs := ys) (j := to_.toNat) (by rw [List.getElem?_eq_getElem (show to_.toNat < ys.length by omega), hyb])
    rw [show ((to_.toNat : Nat) : Int) = to_ by omega] at this
    exact this
  have ixa := ixN_nat (n := ys.length) a0 a1
  have ixb := ixN_nat (n := ys.length) b0 b1
  refine ⟨_, rfl, _, rfl, l, _, _, _, rfl, rfl, SqL.of el, aya, ta, _, rfl, SqT.of hta, rfl, _, _, rfl, _, _, rfl, rfl, ?_⟩
  rcases (by omega : t = 2 ∨ t = 3 ∨ t = 4 ∨ t = 5 ∨ t = 6 ∨ t = 7 ∨ t = 8 ∨ t = 9) with rfl | rfl | rfl | rfl | rfl | rfl | rfl | rfl
  · refine ⟨_, rfl, rfl, _, rfl, iteP rfl ?_⟩
    have elH := el
    have hdH := hd
    have prH := pr
    have btH := But.refl l H
    refine ⟨_, rfl, d, _, _, _, rfl, rfl, SqL.of hd, at2, _, rfl, _, rfl, _, _, rfl, rfl, _, _, _, rfl, by omega, fun n => ⟨_, rfl, _, rfl, (by show 2 ≤ sizeLine; decide), fun t1 ht1 => ?_⟩⟩
    have nlt1 : l ≠ t1 := ne_of_none elH ht1
    have ndt1 : d ≠ t1 := ne_of_none hdH ht1
    have elH1 := (upd_ne (o := .tup [.int (n), .int (pa.2)]) nlt1).trans elH
    have hdH1 := (upd_ne (o := .tup [.int (n), .int (pa.2)]) ndt1).trans hdH
    have btH1 := btH.new ht1 (.tup [.int (n), .int (pa.2)])
    have prH1 := prH.updN ht1 (.tup [.int (n), .int (pa.2)])
    have gt1 : upd H t1 (.tup [.int (n), .int (pa.2)]) t1 = some (.tup [.int (n), .int (pa.2)]) := upd_same
    have olH1 := Same.new (Same.refl H) ht1 (.tup [.int (n), .int (pa.2)])
    generalize upd H t1 (.tup [.int (n), .int (pa.2)]) = H1 at elH1 hdH1 btH1 prH1 gt1 olH1 ⊢
    refine ⟨_, rfl, _, rfl, (by show 2 ≤ sizeLine; decide), fun t2 ht2 => ?_⟩
    have nlt2 : l ≠ t2 := ne_of_none elH1 ht2
    have ndt2 : d ≠ t2 := ne_of_none hdH1 ht2
    have elH2 := (upd_ne (o := .tup [.int (pa.1), .int (n)]) nlt2).trans elH1
    have hdH2 := (upd_ne (o := .tup [.int (pa.1), .int (n)]) ndt2).trans hdH1
    have btH2 := btH1.new ht2 (.tup [.int (pa.1), .int (n)])
    have prH2 := prH1.updN ht2 (.tup [.int (pa.1), .int (n)])
    have gt2 : upd H1 t2 (.tup [.int (pa.1), .int (n)]) t2 = some (.tup [.int (pa.1), .int (n)]) := upd_same
    have olH2 := Same.new (Same.refl H1) ht2 (.tup [.int (pa.1), .int (n)])
    generalize upd H1 t2 (.tup [.int (pa.1), .int (n)]) = H2 at elH2 hdH2 btH2 prH2 gt2 olH2 ⊢
    refine ⟨sz (n := 2) (by decide), fun pk hpk => ?_⟩
    have nlk : l ≠ pk := ne_of_none elH2 hpk
    have ndk : d ≠ pk := ne_of_none hdH2 hpk
    have elH3 := (upd_ne (o := .lst [.ref t1, .ref t2]) nlk).trans elH2
    have hdH3 := (upd_ne (o := .lst [.ref t1, .ref t2]) ndk).trans hdH2
    have btH3 := btH2.new hpk (.lst [.ref t1, .ref t2])
    have prH3 := prH2.updN hpk (.lst [.ref t1, .ref t2])
    have ol3 := Same.new (Same.refl H2) hpk (.lst [.ref t1, .ref t2])
    have hk3 : upd H2 pk (.lst [.ref t1, .ref t2]) pk = some (.lst [.ref t1, .ref t2]) := upd_same
    have g1 := ol3 _ _ (olH2 _ _ gt1)
    have g2 := ol3 _ _ gt2
    generalize upd H2 pk (.lst [.ref t1, .ref t2]) = H3 at elH3 hdH3 btH3 prH3 hk3 g1 g2 ⊢
    have e0 := Int.emod_nonneg d3 (show (2 : Int) ≠ 0 by decide)
    have e1 := Int.emod_lt_of_pos d3 (show (0 : Int) < 2 by decide)
    refine ⟨_, rfl, d, _, _, _, rfl, rfl, SqL.of hdH3, at3, _, _, rfl, rfl, pm (by decide), ?_⟩
    try dsimp only
    generalize d3 % 2 = e at e0 e1 ⊢
    obtain ⟨tt, pn, est, htt⟩ : ∃ (tt : Addr) (pn : Pair), atI [V.ref t1, .ref t2] e = some (.ref tt) ∧ H3 tt = some (.tup [.int pn.1, .int pn.2]) := by
      rcases (by omega : e = 0 ∨ e = 1) with rfl | rfl
      · exact ⟨t1, (n, pa.2), rfl, g1⟩
      · exact ⟨t2, (pa.1, n), rfl, g2⟩
    refine ⟨pk, _, _, _, rfl, rfl, SqL.of hk3, est, _, rfl, _, rfl, l, _, _, _, rfl, rfl, elH3, ixa, ?_⟩
    refine ⟨_, rfl, rfl, _, rfl, iteN (by decide) ⟨_, rfl, rfl, _, rfl, iteN (by decide) ⟨_, rfl, rfl, _, rfl, iteN (by decide) ⟨_, rfl, rfl, _, rfl, iteN (by decide) ⟨_, rfl, rfl, _, rfl, iteN (by decide) ⟨_, rfl, rfl, _, rfl, iteN (by decide) ⟨_, rfl, rfl, _, rfl, iteN (by decide) ⟨_, rfl, ?_⟩⟩⟩⟩⟩⟩⟩⟩
    exact q l _ _ (btH3.upd _) (.inl rfl) ⟨_, upd_same, (Prs.set (p := pn) htt _ prH3).updL elH3 _⟩ (by rw [List.length_set]; omega)
  · refine ⟨_, rfl, rfl, _, rfl, iteN (by decide) ⟨_, rfl, rfl, _, rfl, iteP rfl ?_⟩⟩
    have c1 : cutV ys none (some at_) = ys.take at_.toNat := by
      have := cutV_to ys at_.toNat
      rw [show ((at_.toNat : Nat) : Int) = at_ by omega] at this
      exact this
    have c2 : cutV ys (some (at_ + 1)) none = ys.drop (at_.toNat + 1) := by
      rw [show at_ + 1 = ((at_.toNat + 1 : Nat) : Int) by omega, cutV_from]
    refine ⟨_, rfl, _, rfl, _, rfl, l, _, rfl, SqL.of el, fun ka hka => ?_⟩
    rw [c1]
    have k1 := Same.new (Same.refl H) hka (.lst (ys.take at_.toNat))
    have h1 : upd H ka (.lst (ys.take at_.toNat)) ka = some (.lst (ys.take at_.toNat)) := upd_same
    generalize upd H ka (.lst (ys.take at_.toNat)) = H1 at k1 h1 ⊢
    refine ⟨_, rfl, d, _, _, _, rfl, rfl, SqL.of (k1 _ _ hd), at2, _, rfl, _, rfl, _, rfl, l, _, _, _, rfl, rfl, SqL.of (k1 _ _ el), ayb, _, c, tb, pb, rfl, by omega, k1 _ _ htb, fun v r H2 sH2 hv => ⟨(by show 1 ≤ sizeLine; decide), fun pk hpk => ?_⟩⟩
    have k2 := k1.trans sH2
    have k3 := Same.new (Same.refl H2) hpk (.lst [.ref v])
    have h3 : upd H2 pk (.lst [.ref v]) pk = some (.lst [.ref v]) := upd_same
    have hv3 := k3 _ _ hv
    have h13 := k3 _ _ (sH2 _ _ h1)
    have k03 := k2.trans k3
    generalize upd H2 pk (.lst [.ref v]) = H3 at k03 h3 hv3 h13 ⊢
    have lt : (ys.take at_.toNat).length ≤ 40 := by rw [List.length_take]; omega
    refine ⟨ka, pk, _, _, rfl, rfl, h13, h3, sz (by simp only [List.length_append, List.length_cons, List.length_nil]; omega), fun ke hke => ?_⟩
    have k4 := Same.new (Same.refl H3) hke (.lst (ys.take at_.toNat ++ [.ref v]))
    have h4 : upd H3 ke (.lst (ys.take at_.toNat ++ [.ref v])) ke = some (.lst (ys.take at_.toNat ++ [.ref v])) := upd_same
    have hv4 := k4 _ _ hv3
    have k04 := k03.trans k4
    generalize upd H3 ke (.lst (ys.take at_.toNat ++ [.ref v])) = H4 at k04 h4 hv4 ⊢
    refine ⟨_, rfl, _, rfl, _, _, rfl, rfl, _, rfl, l, _, rfl, SqL.of (k04 _ _ el), fun kc hkc => ?_⟩
    rw [c2]
    have k5 := Same.new (Same.refl H4) hkc (.lst (ys.drop (at_.toNat + 1)))
    have h5 : upd H4 kc (.lst (ys.drop (at_.toNat + 1))) kc = some (.lst (ys.drop (at_.toNat + 1))) := upd_same
    have h45 := k5 _ _ h4
    have hv5 := k5 _ _ hv4
    have k05 := k04.trans k5
    generalize upd H4 kc (.lst (ys.drop (at_.toNat + 1))) = H5 at k05 h5 h45 hv5 ⊢
    have ld : (ys.drop (at_.toNat + 1)).length + at_.toNat + 1 = ys.length := by rw [List.length_drop]; omega
    have lt2 : (ys.take at_.toNat).length = at_.toNat := by rw [List.length_take]; omega
    refine ⟨ke, kc, _, _, rfl, rfl, h45, h5, sz (by simp only [List.length_append, List.length_cons, List.length_nil]; omega), fun kg hkg => ?_⟩
    have k6 := Same.new (Same.refl H5) hkg (.lst (ys.take at_.toNat ++ [.ref v] ++ ys.drop (at_.toNat + 1)))
    have pr6 : Prs (upd H5 kg (.lst (ys.take at_.toNat ++ [.ref v] ++ ys.drop (at_.toNat + 1)))) (ys.take at_.toNat ++ [.ref v] ++ ys.drop (at_.toNat + 1)) (ps.take at_.toNat ++ [r] ++ ps.drop (at_.toNat + 1)) :=
      ((((pr.take _).same k05).app (.cons ⟨v, rfl, hv5⟩ .nil)).app ((pr.drop _).same k05)).same k6
    refine ⟨kg, _, rfl, ⟨_, upd_same, pr6⟩, (by simp only [List.length_append, List.length_cons, List.length_nil, List.length_take, List.length_drop]; omega), fun pq qs H7 s7 f7 h7 hp hs => ?_⟩
    have k07 := (k05.trans k6).trans s7
    exact q pq qs H7 (fun b u n hb => k07 _ _ hb) (.inr ((k05.trans k6).free f7)) h7 (by rw [hp.length_eq]; simp only [List.length_append, List.length_cons, List.length_nil, List.length_take, List.length_drop]; omega)
  · refine ⟨_, rfl, rfl, _, rfl, iteN (by decide) ⟨_, rfl, rfl, _, rfl, iteN (by decide) ⟨_, rfl, rfl, _, rfl, iteP rfl ?_⟩⟩⟩
    refine ⟨_, rfl, .inl ⟨rfl, _, SqL.of el⟩, _, rfl, l, _, at_, at_.toNat, _, rfl, rfl, el, by omega, by omega, (ixN_seq ixa).1, (by rw [List.getElem?_eq_getElem (show at_.toNat < ys.length by omega)]), ?_⟩
    have le := List.length_eraseIdx_le ps at_.toNat
    refine ⟨_, rfl, rfl, _, rfl, iteN (by decide) ⟨_, rfl, rfl, _, rfl, iteN (by decide) ⟨_, rfl, rfl, _, rfl, iteN (by decide) ⟨_, rfl, rfl, _, rfl, iteN (by decide) ⟨_, rfl, rfl, _, rfl, iteN (by decide) ⟨_, rfl, ?_⟩⟩⟩⟩⟩⟩
    exact q l _ _ ((But.refl l H).upd _) (.inl rfl) ⟨_, upd_same, (Prs.erase at_.toNat pr).updL el _⟩ (by omega)
  · refine ⟨_, rfl, rfl, _, rfl, iteN (by decide) ⟨_, rfl, rfl, _, rfl, iteN (by decide) ⟨_, rfl, rfl, _, rfl, iteN (by decide) ⟨_, rfl, rfl, _, rfl, iteP rfl ?_⟩⟩⟩⟩
    have elH := el
    have hdH := hd
    have prH := pr
    have btH := But.refl l H
    refine ⟨_, rfl, .inl ⟨rfl, _, SqL.of el⟩, _, rfl, _, rfl, _, rfl, (by show 2 ≤ sizeLine; decide), fun t1 ht1 => ?_⟩
    have nlt1 : l ≠ t1 := ne_of_none elH ht1
    have ndt1 : d ≠ t1 := ne_of_none hdH ht1
    have elH1 := (upd_ne (o := .tup [.int (pa.1), .int (pa.2)]) nlt1).trans elH
    have hdH1 := (upd_ne (o := .tup [.int (pa.1), .int (pa.2)]) ndt1).trans hdH
    have btH1 := btH.new ht1 (.tup [.int (pa.1), .int (pa.2)])
    have prH1 := prH.updN ht1 (.tup [.int (pa.1), .int (pa.2)])
    have gt1 : upd H t1 (.tup [.int (pa.1), .int (pa.2)]) t1 = some (.tup [.int (pa.1), .int (pa.2)]) := upd_same
    have olH1 := Same.new (Same.refl H) ht1 (.tup [.int (pa.1), .int (pa.2)])
    generalize upd H t1 (.tup [.int (pa.1), .int (pa.2)]) = H1 at elH1 hdH1 btH1 prH1 gt1 olH1 ⊢
    refine ⟨l, _, to_, _, rfl, rfl, elH1, by omega, by omega, sz' (by omega), ?_⟩
    obtain ⟨qs, pq, lq⟩ := Prs.ins (p := (pa.1, pa.2)) to_ prH1 gt1
    refine ⟨_, rfl, rfl, _, rfl, iteN (by decide) ⟨_, rfl, rfl, _, rfl, iteN (by decide) ⟨_, rfl, rfl, _, rfl, iteN (by decide) ⟨_, rfl, rfl, _, rfl, iteN (by decide) ⟨_, rfl, ?_⟩⟩⟩⟩⟩
    exact q l qs _ (btH1.upd _) (.inl rfl) ⟨_, upd_same, pq.updL elH1 _⟩ (by omega)
  · refine ⟨_, rfl, rfl, _, rfl, iteN (by decide) ⟨_, rfl, rfl, _, rfl, iteN (by decide) ⟨_, rfl, rfl, _, rfl, iteN (by decide) ⟨_, rfl, rfl, _, rfl, iteN (by decide) ⟨_, rfl, rfl, _, rfl, iteP rfl ?_⟩⟩⟩⟩⟩
    have elH := el
    have hdH := hd
    have prH := pr
    have btH := But.refl l H
    refine ⟨_, rfl, _, rfl, (by show 2 ≤ sizeLine; decide), fun t1 ht1 => ?_⟩
    have nlt1 : l ≠ t1 := ne_of_none elH ht1
    have ndt1 : d ≠ t1 := ne_of_none hdH ht1
    have elH1 := (upd_ne (o := .tup [.int (pa.2), .int (pa.1)]) nlt1).trans elH
    have hdH1 := (upd_ne (o := .tup [.int (pa.2), .int (pa.1)]) ndt1).trans hdH
    have btH1 := btH.new ht1 (.tup [.int (pa.2), .int (pa.1)])
    have prH1 := prH.updN ht1 (.tup [.int (pa.2), .int (pa.1)])
    have gt1 : upd H t1 (.tup [.int (pa.2), .int (pa.1)]) t1 = some (.tup [.int (pa.2), .int (pa.1)]) := upd_same
    have olH1 := Same.new (Same.refl H) ht1 (.tup [.int (pa.2), .int (pa.1)])
    generalize upd H t1 (.tup [.int (pa.2), .int (pa.1)]) = H1 at elH1 hdH1 btH1 prH1 gt1 olH1 ⊢
    refine ⟨_, rfl, _, rfl, l, _, _, _, rfl, rfl, elH1, ixa, ?_⟩
    refine ⟨_, rfl, rfl, _, rfl, iteN (by decide) ⟨_, rfl, rfl, _, rfl, iteN (by decide) ⟨_, rfl, rfl, _, rfl, iteN (by decide) ⟨_, rfl, ?_⟩⟩⟩⟩
    exact q l _ _ (btH1.upd _) (.inl rfl) ⟨_, upd_same, (Prs.set (p := (pa.2, pa.1)) gt1 _ prH1).updL elH1 _⟩ (by rw [List.length_set]; omega)
  · refine ⟨_, rfl, rfl, _, rfl, iteN (by decide) ⟨_, rfl, rfl, _, rfl, iteN (by decide) ⟨_, rfl, rfl, _, rfl, iteN (by decide) ⟨_, rfl, rfl, _, rfl, iteN (by decide) ⟨_, rfl, rfl, _, rfl, iteN (by decide) ⟨_, rfl, rfl, _, rfl, iteP rfl ?_⟩⟩⟩⟩⟩⟩
    refine ⟨_, rfl, ?_⟩
    refine ⟨_, rfl, d, _, _, _, rfl, rfl, SqL.of hd, at2, _, rfl, _, rfl, _, rfl, l, _, _, _, rfl, rfl, SqL.of el, ayb, _, c, tb, pb, rfl, by omega, htb, fun v r H2 sH2 hv => ⟨(by show 1 ≤ sizeLine; decide), fun pk hpk => ?_⟩⟩
    have k3 := Same.new (Same.refl H2) hpk (.lst [.ref v])
    have h3 : upd H2 pk (.lst [.ref v]) pk = some (.lst [.ref v]) := upd_same
    have hv3 := k3 _ _ hv
    have k03 := sH2.trans k3
    generalize upd H2 pk (.lst [.ref v]) = H3 at k03 h3 hv3 ⊢
    refine ⟨l, pk, _, _, rfl, rfl, k03 _ _ el, h3, sz (by simp only [List.length_append, List.length_cons, List.length_nil]; omega), fun kg hkg => ?_⟩
    have k6 := Same.new (Same.refl H3) hkg (.lst (ys ++ [.ref v]))
    have pr6 : Prs (upd H3 kg (.lst (ys ++ [.ref v]))) (ys ++ [.ref v]) (ps ++ [r]) := ((pr.same k03).app (.cons ⟨v, rfl, hv3⟩ .nil)).same k6
    refine ⟨kg, _, rfl, ⟨_, upd_same, pr6⟩, (by simp only [List.length_append, List.length_cons, List.length_nil]; omega), fun pq qs H7 s7 f7 h7 hp hs => ?_⟩
    have k07 := (k03.trans k6).trans s7
    exact q pq qs H7 (fun b u n hb => k07 _ _ hb) (.inr ((k03.trans k6).free f7)) h7 (by rw [hp.length_eq]; simp only [List.length_append, List.length_cons, List.length_nil]; omega)
  · refine ⟨_, rfl, rfl, _, rfl, iteN (by decide) ⟨_, rfl, rfl, _, rfl, iteN (by decide) ⟨_, rfl, rfl, _, rfl, iteN (by decide) ⟨_, rfl, rfl, _, rfl, iteN (by decide) ⟨_, rfl, rfl, _, rfl, iteN (by decide) ⟨_, rfl, rfl, _, rfl, iteN (by decide) ⟨_, rfl, rfl, _, rfl, iteP rfl ?_⟩⟩⟩⟩⟩⟩⟩
    refine ⟨_, rfl, _, rfl, l, _, _, _, rfl, rfl, SqL.of el, ayb, _, rfl, _, rfl, l, _, _, _, rfl, rfl, el, ixa, ?_⟩
    have pr2 := (Prs.set htb at_.toNat pr).updL el (.lst (ys.set at_.toNat (.ref tb)))
    have el2 : upd H l (.lst (ys.set at_.toNat (.ref tb))) l = some (.lst (ys.set at_.toNat (.ref tb))) := upd_same
    have bt2 := (But.refl l H).upd (.lst (ys.set at_.toNat (.ref tb)))
    generalize upd H l (.lst (ys.set at_.toNat (.ref tb))) = H2 at pr2 el2 bt2 ⊢
    refine ⟨_, rfl, _, rfl, (by show 2 ≤ sizeLine; decide), fun t3 ht3 => ?_⟩
    have nl3 : l ≠ t3 := ne_of_none el2 ht3
    have el3 := (upd_ne (o := .tup [.int pa.1, .int pa.2]) nl3).trans el2
    have pr3 := pr2.updN ht3 (.tup [.int pa.1, .int pa.2])
    have bt3 := bt2.new ht3 (.tup [.int pa.1, .int pa.2])
    have h3 : upd H2 t3 (.tup [.int pa.1, .int pa.2]) t3 = some (.tup [.int pa.1, .int pa.2]) := upd_same
    generalize upd H2 t3 (.tup [.int pa.1, .int pa.2]) = H3 at el3 pr3 bt3 h3 ⊢
    refine ⟨_, rfl, _, rfl, l, _, _, _, rfl, rfl, el3, ixN_nat (n := (ys.set at_.toNat (.ref tb)).length) b0 (by rw [List.length_set]; exact b1), ?_⟩
    refine ⟨_, rfl, rfl, _, rfl, iteN (by decide) ⟨_, rfl, ?_⟩⟩
    exact q l _ _ (bt3.upd _) (.inl rfl) ⟨_, upd_same, (Prs.set (p := pa) h3 _ pr3).updL el3 _⟩ (by rw [List.length_set, List.length_set]; omega)
  · refine ⟨_, rfl, rfl, _, rfl, iteN (by decide) ⟨_, rfl, rfl, _, rfl, iteN (by decide) ⟨_, rfl, rfl, _, rfl, iteN (by decide) ⟨_, rfl, rfl, _, rfl, iteN (by decide) ⟨_, rfl, rfl, _, rfl, iteN (by decide) ⟨_, rfl, rfl, _, rfl, iteN (by decide) ⟨_, rfl, rfl, _, rfl, iteN (by decide) ⟨_, rfl, rfl, _, rfl, iteP rfl ?_⟩⟩⟩⟩⟩⟩⟩⟩
    refine ⟨_, rfl, sz (n := 2) (by decide), fun pk hpk => ?_⟩
    have npk : d ≠ pk := ne_of_none hd hpk
    have nlk : l ≠ pk := ne_of_none el hpk
    have hd2 := (upd_ne (o := .lst [.int 1, .int (-1)]) npk).trans hd
    have el2 := (upd_ne (o := .lst [.int 1, .int (-1)]) nlk).trans el
    have b2 := (But.refl l H).new hpk (.lst [.int 1, .int (-1)])
    have pr2 := pr.updN hpk (.lst [.int 1, .int (-1)])
    have hk2 : upd H pk (.lst [.int 1, .int (-1)]) pk = some (.lst [.int 1, .int (-1)]) := upd_same
    generalize upd H pk (.lst [.int 1, .int (-1)]) = H2 at hd2 el2 b2 pr2 hk2 ⊢
    have e0 := Int.emod_nonneg d2 (show (2 : Int) ≠ 0 by decide)
    have e1 := Int.emod_lt_of_pos d2 (show (0 : Int) < 2 by decide)
    refine ⟨_, rfl, d, _, _, _, rfl, rfl, SqL.of hd2, at2, _, _, rfl, rfl, pm (by decide), ?_⟩
    try dsimp only
    generalize d2 % 2 = e at e0 e1 ⊢
    obtain ⟨st, est⟩ : ∃ st : Int, atI [V.int 1, .int (-1)] e = some (.int st) := by
      rcases (by omega : e = 0 ∨ e = 1) with rfl | rfl
      all_goals exact ⟨_, rfl⟩
    refine ⟨pk, _, _, _, rfl, rfl, SqL.of hk2, est, ?_⟩
    refine ⟨_, rfl, l, rfl, ⟨_, SqL.of el2⟩, fun D hD => comp_walk (xs := ys) (fun i zs H' => Same H2 H' ∧ H' D = some (.lst zs) ∧ Prs H' zs ((ps.take i).map (up st)) ∧ i ≤ ps.length) (sz (by omega)) ⟨Same.new (Same.refl H2) hD _, upd_same, .nil, Nat.zero_le _⟩ (fun i zs H' hi h => ⟨SqL.of (h.1 _ _ el2), ?_⟩) (fun i x zs H' R R0 hx h r r0 => ?_) (fun zs H' h => ?_)⟩
    · have := h.2.2.1.length
      rw [List.length_map, List.length_take] at this
      omega
    · obtain ⟨sm, hy, py, hi⟩ := h
      obtain ⟨pp, tt, hpp, rfl, htt⟩ := pr2.get hx
      have hlt : i < ps.length := (List.getElem?_eq_some_iff.mp hpp).1
      refine ⟨tt, _, rfl, SqT.of (sm _ _ htt), rfl, _, _, rfl, _, _, rfl, rfl, (Ext.set rfl).trans (Ext.set rfl), ttN (iteT ?_)⟩
      refine ⟨_, rfl, _, rfl, _, _, rfl, rfl, _, rfl, _, rfl, _, _, rfl, rfl, (by show 2 ≤ sizeLine; decide), fun t1 ht1 => ?_⟩
      have n1 : D ≠ t1 := ne_of_none hy ht1
      have hy1 := (upd_ne (o := .tup [.int (pp.1 + st), .int (pp.2 + st)]) n1).trans hy
      refine r _ _ hy1 ⟨(Same.new sm ht1 _).upd hD _, upd_same, ?_, hlt⟩
      have := ((py.updN ht1 (.tup [.int (pp.1 + st), .int (pp.2 + st)])).snoc (t := t1) (p := up st pp) upd_same).updL hy1 (.lst (zs ++ [.ref t1]))
      rw [List.take_add_one, hpp, List.map_append]
      exact this
    · obtain ⟨sm, hy, py, hi⟩ := h
      rw [List.take_of_length_le (by omega)] at py
      exact q D _ H' (fun b u n hb => sm _ _ (b2 b u n hb)) (.inr (by
        cases hh : H D with
        | none => rfl
        | some u =>
          by_cases z : D = l
          · subst z; rw [el2] at hD; cases hD
          · rw [b2 D u z hh] at hD; cases hD)) ⟨zs, hy, py⟩ (by rw [List.length_map]; omega)
theorem ok__law_by_chance {er : Er1} (EO : Er1Ok K mg er) {ca : ClA} (CA : ClOk K mg ca) {f : Addr} {fd : FuncData} (F : Fun K "_law_by_chance" "_law_by_chance" s__law_by_chance f fd) {f0 : Addr} {fd0 : FuncData} (d__law_draws : Def P w K mg base "_law_draws" ["_law_script", "_law_turn", "_law_many"] 1 (sp__law_draws K ca) f0 fd0) (m_range : mg "range" = none) (m_max : mg "max" = none) (m_sorted : mg "sorted" = none) : FnOk P w K mg base CX0 2 f fd ["_law_script"] (sp__law_by_chance K ca) := by
  refine F.ok sc__law_by_chance (fun vs H Q E h => ?_) (fun cdv A outer s H vs Q E hr h => ?_)
  · obtain ⟨a, ns, rfl, hS, h63, q⟩ := h
    rfl
  obtain ⟨a, ns, rfl, hS, h63, q⟩ := h
  refine ⟨_, pss_cons (ps_set (i := 1) sc__law_by_chance.nd rfl (Or.inl rfl) (pcall d__law_draws hr (pa_cons (pv 0) (pa_cons pe_int (pa_cons pe_int pa_nil)))))
    (pss_cons (ps_set (i := 2) sc__law_by_chance.nd rfl (Or.inl rfl) (pe_op op_sub (pe_op op_mod (pe_ix ix_list (pv 1) pe_int (fun _ _ => rfl)) pe_int) pe_int))
    (pss_cons (ps_set (i := 3) sc__law_by_chance.nd rfl (Or.inl rfl) (pe_lst pa_nil))
    (pss_cons (ps_for PassesOwn.never rfl (pi_range1 rfl m_range (pa_cons (pe_callB (call_max2 rfl) rfl m_max bb_max (pa_cons (pe_op op_sub (pv 2) pe_int) (pa_cons pe_int pa_nil))) pa_nil)) (pg_name (i := 4) sc__law_by_chance.nd rfl (Or.inl rfl)) (pss_cons (ps_set (i := 5) sc__law_by_chance.nd rfl (Or.inl rfl) (pe_op op_mod (pe_ix ix_list (pv 1) (pv 4) (fun _ _ => rfl)) (pv 2)))
    (pss_one (ps_expr (pe_bm PySem.F.plainAttrs_list PySem.F.slot_list_append PySem.F.type_list_append mt_append (pv 3) (pa_cons (pe_tup (pa_cons (pv 5) (pa_cons (pe_op op_add (pe_op op_add (pv 5) pe_int) (pe_op op_mod (pe_op op_fdivL (pe_ix ix_list (pv 1) (pv 4) (fun _ _ => rfl)) pe_int) pe_int)) pa_nil))) pa_nil))))))
    (pss_one (ps_ret (pe_tup (pa_cons (pv 2) (pa_cons (pe_callB call_sortedP rfl m_sorted bb_sorted (pa_cons (pv 3) pa_nil)) pa_nil)))))))), ?_⟩
  refine ⟨_, rfl, a, ns, 301, 7, rfl, hS, h63, by decide, by decide, by decide, by decide, fun pd xs H1 sm1 fd hd lx bx => ?_⟩
  have lx' : xs.length = 7 := by omega
  have at6 := atI_int (ns := xs) (i := 6) (by decide) (by omega)
  generalize xs.getD (6 : Int).toNat 0 = d6 at at6
  have e0 := Int.emod_nonneg d6 (show (10 : Int) ≠ 0 by decide)
  have e1 := Int.emod_lt_of_pos d6 (show (0 : Int) < 10 by decide)
  refine ⟨_, rfl, pd, _, _, _, rfl, rfl, SqL.of hd, at6, _, _, rfl, rfl, pm (by decide), _, _, rfl, rfl, ?_⟩
  try dsimp only
  generalize ec : d6 % 10 - 1 = c
  refine ⟨Nat.zero_le _, fun pb hpb => ?_⟩
  have s2 := Same.new sm1 hpb (.lst [])
  have fpb : H pb = none := sm1.free hpb
  have ndb : pd ≠ pb := ne_of_none hd hpb
  have hc8 : (if (0 : Int) > c - 3 then 0 else c - 3) ≤ 5 ∧ 0 ≤ (if (0 : Int) > c - 3 then 0 else c - 3) := by split <;> omega
  have hcp : (if (0 : Int) > c - 3 then 0 else c - 3) ≠ 0 → 0 < c := by split <;> omega
  refine ⟨_, rfl, _, _, rfl, rfl, _, _, rfl, _, rfl, by omega, by omega, for_range (lo := 0) (n := (if (0 : Int) > c - 3 then 0 else c - 3).toNat) (fun i σ H' => ∃ (o1 o2 : Option V) (ps : List Pair), σ = [some (.ref a), some (.ref pd), some (.int c), some (.ref pb), o1, o2] ∧ Same H H' ∧ H' pd = some (.lst (xs.map V.int)) ∧ PLs H' pb ps ∧ ps.length = i)
    ⟨_, _, [], rfl, s2, (upd_ne ndb).trans hd, ⟨[], upd_same, .nil⟩, rfl⟩ ?_ ?_⟩
  · rintro i σ H2 hi ⟨o1, o2, ps, rfl, sm, hd2, ⟨zs, hb3, pz⟩, lp⟩
    have lz := pz.length
    have c0 : 0 < c := hcp (by omega)
    have atk := atI_int (ns := xs) (i := (0 : Int) + (i : Int)) (by omega) (by omega)
    generalize xs.getD ((0 : Int) + (i : Int)).toNat 0 = dk at atk
    refine ⟨_, rfl, _, rfl, pd, _, _, _, rfl, rfl, SqL.of hd2, atk, _, rfl, _, _, rfl, rfl, c0, ?_⟩
    try dsimp only
    generalize dk % c = u
    refine ⟨_, rfl, .inl ⟨rfl, _, SqL.of hb3⟩, _, rfl, _, rfl, _, _, rfl, rfl, _, rfl, _, rfl, pd, _, _, _, rfl, rfl, SqL.of hd2, atk, _, _, rfl, rfl, ⟨by decide, by decide +kernel⟩, _, _, rfl, rfl, pm (by decide), _, _, rfl, rfl, (by show 2 ≤ sizeLine; decide), fun tt htt => ?_⟩
    try dsimp only
    generalize u + 2 + dk / 16 % 3 = v
    have nbt : pb ≠ tt := ne_of_none hb3 htt
    have ndt : pd ≠ tt := ne_of_none hd2 htt
    have hb4 := (upd_ne (o := .tup [.int u, .int v]) nbt).trans hb3
    have pz4 := (pz.updN htt (.tup [.int u, .int v])).snoc (t := tt) (p := (u, v)) upd_same
    refine ⟨pb, _, _, rfl, rfl, hb4, sz' (by omega), ?_⟩
    exact ⟨_, _, ps ++ [(u, v)], rfl, (Same.new sm htt _).upd fpb _, (upd_ne ndb).trans ((upd_ne ndt).trans hd2), ⟨_, upd_same, pz4.updL hb4 _⟩, by rw [List.length_append, lp]; rfl⟩
  · rintro σ H2 ⟨o1, o2, ps, rfl, sm, hd2, hb2, lp⟩
    refine ⟨_, rfl, _, rfl, pb, ps, rfl, hb2, by omega, fun pq qs H4 s4 f4 h4 hp hs => ⟨(by show 2 ≤ sizeLine; decide), fun u hu => ?_⟩⟩
    exact q u pq c qs _ (Same.new (sm.trans s4) hu _) (sm.free f4) upd_same (h4.same (Same.new (Same.refl _) hu _)) (by rw [hp.length_eq]; omega)
theorem ok__law_crossing {er : Er1} (EO : Er1Ok K mg er) {ca : ClA} (CA : ClOk K mg ca) {f : Addr} {fd : FuncData} (F : Fun K "_law_crossing" "_law_crossing" s__law_crossing f fd) : FnOk P w K mg base CX0 1 f fd ["_law_cuts_here"] (sp__law_crossing K ca) := by
  refine F.ok sc__law_crossing (fun vs H Q E h => ?_) (fun cdv A outer s H vs Q E hr h => ?_)
  · obtain ⟨l, ps, rfl, hl, q⟩ := h
    rfl
  obtain ⟨l, ps, rfl, hl, q⟩ := h
  refine ⟨_, pss_cons (ps_for PassesOwn.never rfl (pi_list (pv 0)) (pg_tup rfl (pgs_cons (pg_name (i := 1) sc__law_crossing.nd rfl (Or.inl rfl)) (pgs_cons (pg_name (i := 2) sc__law_crossing.nd rfl (Or.inl rfl)) pgs_nil))) (pss_one (ps_for PassesOwn.never rfl (pi_list (pv 0)) (pg_tup rfl (pgs_cons (pg_name (i := 3) sc__law_crossing.nd rfl (Or.inl rfl)) (pgs_cons (pg_name (i := 4) sc__law_crossing.nd rfl (Or.inl rfl)) pgs_nil))) (pss_one (ps_if (PW.pt (pw_and (pt_cmpR op_lt (pv 1) (pv 3) (nomark _)) (pw_and (pt_cmpR op_lt (pv 3) (pv 2) (nomark _)) (pw_and1 (pt_cmpR op_lt (pv 2) (pv 4) (nomark _)))))) (pss_one (ps_ret pe_bl)) pss_nil)))))
    (pss_one (ps_ret pe_bl)), ?_⟩
  obtain ⟨xs, el, lxs, pr⟩ := hl.len
  refine ⟨_, rfl, l, rfl, ⟨_, SqL.of el⟩, for_list (xs := xs) (fun i σ H' => ∃ (o1 o2 o3 o4 : Option V), σ = [some (.ref l), o1, o2, o3, o4] ∧ H = H' ∧ ∀ p ∈ ps.take i, ps.any (crsP p) = false) ⟨_, _, _, _, rfl, rfl, by simp⟩ (fun i σ H' _ h => by obtain ⟨_, _, _, _, _, rfl, _⟩ := h; exact SqL.of el) ?_ ?_⟩
  · rintro i v σ H2 hv ⟨o1, o2, o3, o4, rfl, rfl, al⟩
    obtain ⟨pp, tt, hpp, rfl, htt⟩ := pr.get hv
    refine ⟨tt, _, rfl, SqT.of htt, rfl, _, _, rfl, _, _, rfl, rfl, ?_⟩
    refine ⟨_, rfl, l, rfl, ⟨_, SqL.of el⟩, for_list (xs := xs) (fun j σ H' => ∃ (o3 o4 : Option V), σ = [some (.ref l), some (.int pp.1), some (.int pp.2), o3, o4] ∧ H = H' ∧ ∀ r ∈ ps.take j, crsP pp r = false) ⟨_, _, rfl, rfl, by simp⟩ (fun i σ H' _ h => by obtain ⟨_, _, _, rfl, _⟩ := h; exact SqL.of el) ?_ ?_⟩
    · rintro j v σ H3 hv ⟨o3, o4, rfl, rfl, al2⟩
      obtain ⟨rr, t2, hrr, rfl, ht2⟩ := pr.get hv
      refine ⟨t2, _, rfl, SqT.of ht2, rfl, _, _, rfl, _, _, rfl, rfl, ?_⟩
      have next : crsP pp rr = false → ∀ r ∈ ps.take (j + 1), crsP pp r = false := fun hc r hr => by
        rw [List.take_add_one, hrr] at hr
        rcases List.mem_append.mp hr with z | z
        · exact al2 r z
        · have : r = rr := by simpa using z
          rw [this]; exact hc
      refine ⟨_, rfl, _, rfl, _, _, rfl, rfl, _, rfl, ?_⟩
      by_cases c1 : pp.1 < rr.1
      · refine iteP c1 ⟨_, rfl, _, rfl, _, _, rfl, rfl, _, rfl, ?_⟩
        by_cases c2 : rr.1 < pp.2
        · refine iteP c2 ⟨_, rfl, _, rfl, _, _, rfl, rfl, _, rfl, ?_⟩
          by_cases c3 : pp.2 < rr.2
          · refine iteP c3 ?_
            have : crossB ps = true := crossB_iff.mpr ⟨pp, List.mem_of_getElem? hpp, rr, List.mem_of_getElem? hrr, c1, c2, c3⟩
            rw [this] at q
            exact q
          · exact iteN c3 ⟨_, _, rfl, rfl, next (by unfold crsP; simp [c3])⟩
        · exact iteN c2 (iteF ⟨_, _, rfl, rfl, next (by unfold crsP; simp [c2])⟩)
      · exact iteN c1 (iteF ⟨_, _, rfl, rfl, next (by unfold crsP; simp [c1])⟩)
    · rintro σ H3 ⟨o3, o4, rfl, rfl, al2⟩
      rw [List.take_of_length_le (by omega)] at al2
      refine ⟨_, _, _, _, rfl, rfl, fun p hp => ?_⟩
      rw [List.take_add_one, hpp] at hp
      rcases List.mem_append.mp hp with z | z
      · exact al p z
      · have : p = pp := by simpa using z
        rw [this, List.any_eq_false]
        intro r hr
        rw [al2 r hr]
        decide
  · rintro σ H2 ⟨o1, o2, o3, o4, rfl, rfl, al⟩
    rw [List.take_of_length_le (by omega)] at al
    have : crossB ps = false := by
      unfold crossB
      rw [List.any_eq_false]
      intro p hp
      rw [al p hp]
      decide
    rw [this] at q
    exact q
theorem ok__law_stand {er : Er1} (EO : Er1Ok K mg er) {ca : ClA} (CA : ClOk K mg ca) {f : Addr} {fd : FuncData} (F : Fun K "_law_stand" "_law_stand" s__law_stand f fd) {f0 : Addr} {fd0 : FuncData} (d__law_crossing : Def P w K mg base "_law_crossing" ["_law_cuts_here"] 1 (sp__law_crossing K ca) f0 fd0) (m_len : mg "len" = none) (m_max : mg "max" = none) (m_range : mg "range" = none) : FnOk P w K mg base CX0 2 f fd ["_law_corners", "_law_cuts_here"] (sp__law_stand K ca) := by
  refine F.ok sc__law_stand (fun vs H Q E h => ?_) (fun cdv A outer s H vs Q E hr h => ?_)
  · obtain ⟨l, c, ps, rfl, hl, hz, q⟩ := h
    rfl
  obtain ⟨l, c, ps, rfl, hl, hz, q⟩ := h
  refine ⟨_, pss_cons (ps_if (PW.pt (pw_or (pt_cmpR op_lt (pv 0) pe_int (nomark _)) (pw_or1 (pt_cmpR op_ne (pe_callB call_len_seq rfl m_len bb_len (pa_cons (pv 1) pa_nil)) (pe_callB (call_max2 rfl) rfl m_max bb_max (pa_cons (pe_op op_sub (pv 0) pe_int) (pa_cons pe_int pa_nil))) (nomark _))))) (pss_one (ps_ret pe_bl)) pss_nil)
    (pss_cons (ps_for PassesOwn.never rfl (pi_range1 rfl m_range (pa_cons (pe_callB call_len_seq rfl m_len bb_len (pa_cons (pv 1) pa_nil)) pa_nil)) (pg_name (i := 2) sc__law_stand.nd rfl (Or.inl rfl)) (pss_cons (ps_asg (pe_ix ix_list (pv 1) (pv 2) (fun _ _ => rfl)) (pg_tup rfl (pgs_cons (pg_name (i := 3) sc__law_stand.nd rfl (Or.inl rfl)) (pgs_cons (pg_name (i := 4) sc__law_stand.nd rfl (Or.inl rfl)) pgs_nil))))
    (pss_cut (ps_if (PW.pt (pw_or (pt_cmpR op_lt (pv 3) pe_int (nomark _)) (pw_or (pt_cmpR op_ge (pv 4) (pv 0) (nomark _)) (pw_or (pt_cmpR op_lt (pe_op op_sub (pv 4) (pv 3)) pe_int (nomark _)) (pw_or1 (PW.pt (pw_and (pt_cmpR op_eq (pv 3) pe_int (nomark _)) (pw_and1 (pt_cmpR op_eq (pv 4) (pe_op op_sub (pv 0) pe_int) (nomark _)))))))))) (pss_one (ps_ret pe_bl)) pss_nil)
    (pss_cons (ps_asg (pe_ix ix_list (pv 1) (pe_callB (call_max2 rfl) rfl m_max bb_max (pa_cons (pe_op op_sub (pv 2) pe_int) (pa_cons pe_int pa_nil))) (fun _ _ => rfl)) (pg_tup rfl (pgs_cons (pg_name (i := 5) sc__law_stand.nd rfl (Or.inl rfl)) (pgs_cons (pg_name (i := 6) sc__law_stand.nd rfl (Or.inl rfl)) pgs_nil))))
    (pss_one (ps_if (PW.pt (pw_and (pt_cmpR op_gt (pv 2) pe_int (nomark _)) (pw_and1 (PW.pt (pw_or (pt_cmpR op_lt (pv 3) (pv 5) (nomark _)) (pw_or1 (PW.pt (pw_and (pt_cmpR op_eq (pv 3) (pv 5) (nomark _)) (pw_and1 (pt_cmpR op_le (pv 4) (pv 6) (nomark _))))))))))) (pss_one (ps_ret pe_bl)) pss_nil))))))
    (pss_one (ps_ret (pe_not (pcall d__law_crossing hr (pa_cons (pv 1) pa_nil)))))), ?_⟩
  obtain ⟨xs, el, lxs, pr⟩ := hl.len
  have nolen : lenB c ps.length = false → Q (.bl false) H := fun z => by rw [flB_no z] at q; exact q
  have noat : ∀ k, k < ps.length → stC c ps k = false → Q (.bl false) H := fun k hk z => by rw [flB_at hk z] at q; exact q
  refine ⟨_, rfl, _, _, rfl, rfl, _, rfl, ?_⟩
  by_cases c1 : c < 2
  · exact iteP c1 (iteT (nolen (by unfold lenB; rw [decide_eq_false (by omega), Bool.false_and])))
  refine iteN c1 ⟨_, rfl, l, _, rfl, .inl (SqL.of el), _, rfl, _, _, rfl, rfl, _, _, rfl, rfl, _, rfl, ?_⟩
  by_cases c2 : ((xs.length : Nat) : Int) = if (0 : Int) > c - 3 then 0 else c - 3
  case neg =>
    refine iteNN (ne_int c2) (nolen ?_)
    unfold lenB
    rw [decide_eq_false (show ¬ ((ps.length : Nat) : Int) = _ by
      intro z
      rw [← lxs] at z
      refine c2 (z.trans ?_)
      split <;> split <;> omega), Bool.and_false]
  have lb : lenB c ps.length = true := by
    unfold lenB
    rw [Bool.and_eq_true, decide_eq_true_iff, decide_eq_true_iff]
    refine ⟨by omega, ?_⟩
    rw [← lxs, c2]
    split <;> split <;> omega
  refine iteNS (congrArg V.int c2) ?_
  refine ⟨_, rfl, l, _, rfl, .inl (SqL.of el), _, rfl, by omega, by omega, for_range (lo := 0) (n := ((xs.length : Nat) : Int).toNat) (fun i σ H' => ∃ (o1 o2 o3 o4 o5 : Option V), σ = [some (.int c), some (.ref l), o1, o2, o3, o4, o5] ∧ H = H' ∧ ∀ j : Nat, j < i → stC c ps j = true) ⟨_, _, _, _, _, rfl, rfl, fun j hj => absurd hj (Nat.not_lt_zero _)⟩ ?_ ?_⟩
  · rintro i σ H2 hi ⟨o1, o2, o3, o4, o5, rfl, rfl, al⟩
    have hi' : i < ps.length := by omega
    have hiy : i < xs.length := by omega
    obtain ⟨pp, tt, hpp, hyt, htt⟩ := pr.get (List.getElem?_eq_getElem hiy)
    have ep : ps.getD i (0, 0) = pp := by rw [List.getD_eq_getElem?_getD, hpp]; rfl
    have aty : atI xs ((0 : Int) + (i : Int)) = some (.ref tt) := by
      have := atI_nat (xs := xs) (j := i) (by rw [List.getElem?_eq_getElem hiy, hyt])
      rw [show (0 : Int) + (i : Int) = (i : Int) by omega]
      exact this
    have bad : cutB c pp = false → Q (.bl false) H := fun z => noat i hi' (by unfold stC; rw [ep, z, Bool.false_and])
    refine ⟨_, rfl, _, rfl, l, _, _, _, rfl, rfl, SqL.of el, aty, tt, _, rfl, SqT.of htt, rfl, _, _, rfl, _, _, rfl, rfl, ?_⟩
    refine ⟨fun σ' H' => σ' = [some (.int c), some (.ref l), some (.int ((0 : Int) + (i : Int))), some (.int pp.1), some (.int pp.2), o4, o5] ∧ H = H' ∧ cutB c pp = true, ?_, ?_⟩
    · refine ⟨_, rfl, _, _, rfl, rfl, _, rfl, ?_⟩
      by_cases d1 : pp.1 < 0
      · exact iteP d1 (iteT (bad (by unfold cutB; rw [decide_eq_false (by omega), Bool.false_and])))
      refine iteN d1 ⟨_, rfl, _, rfl, _, _, rfl, rfl, _, rfl, ?_⟩
      by_cases d2 : pp.2 ≥ c
      · exact iteP d2 (iteT (bad (by unfold cutB; rw [decide_eq_false (show ¬ pp.2 < c by omega)]; simp)))
      refine iteN d2 ⟨_, rfl, _, rfl, _, _, rfl, rfl, _, _, rfl, rfl, _, rfl, ?_⟩
      by_cases d3 : pp.2 - pp.1 < 2
      · exact iteP d3 (iteT (bad (by unfold cutB; rw [decide_eq_false (show ¬ pp.1 < pp.2 - 1 by omega)]; simp)))
      refine iteN d3 ⟨_, rfl, rfl, _, rfl, ?_⟩
      have good : ¬ (pp.1 = 0 ∧ pp.2 = c - 1) → cutB c pp = true := fun z => cutB_iff.mpr ⟨by omega, by omega, by omega, z⟩
      by_cases d4 : pp.1 = 0
      · refine iteP (congrArg V.int d4) ⟨_, rfl, _, rfl, _, _, rfl, rfl, rfl, _, rfl, ?_⟩
        by_cases d5 : pp.2 = c - 1
        · exact iteP (congrArg V.int d5) (bad (by unfold cutB; rw [decide_eq_true d4, decide_eq_true d5]; simp))
        · exact iteN (fun z => d5 (V.int.inj z)) ⟨rfl, rfl, good fun z => d5 z.2⟩
      · exact iteN (fun z => d4 (V.int.inj z)) (iteF ⟨rfl, rfl, good fun z => d4 z.1⟩)
    rintro σ' H' ⟨rfl, rfl, cb⟩
    obtain ⟨pq, tq, hpq, hyq, htq⟩ := pr.get (List.getElem?_eq_getElem (show i - 1 < xs.length by omega))
    have eq : ps.getD (i - 1) (0, 0) = pq := by rw [List.getD_eq_getElem?_getD, hpq]; rfl
    have atq : atI xs (if (0 : Int) > (0 : Int) + (i : Int) - 1 then 0 else (0 : Int) + (i : Int) - 1) = some (.ref tq) := by
      have := atI_nat (xs := xs) (j := i - 1) (by rw [List.getElem?_eq_getElem (show i - 1 < xs.length by omega), hyq])
      rw [show (if (0 : Int) > (0 : Int) + (i : Int) - 1 then 0 else (0 : Int) + (i : Int) - 1) = ((i - 1 : Nat) : Int) by split <;> omega]
      exact this
    refine ⟨_, rfl, _, rfl, _, _, rfl, rfl, _, _, rfl, l, _, _, _, rfl, rfl, SqL.of el, atq, tq, _, rfl, SqT.of htq, rfl, _, _, rfl, _, _, rfl, rfl, ?_⟩
    have fin : (i = 0 ∨ ltP pq pp = true) → ∀ j : Nat, j < i + 1 → stC c ps j = true := fun h j hj => by
      by_cases e : j = i
      · rw [e]
        unfold stC
        rw [ep, eq, cb, Bool.true_and, Bool.or_eq_true, decide_eq_true_iff]
        exact h
      · exact al j (by omega)
    have bad2 : i ≠ 0 → ltP pq pp = false → Q (.bl false) H := fun h z => noat i hi' (by unfold stC; rw [ep, eq, z, decide_eq_false h]; simp)
    refine ⟨_, rfl, _, _, rfl, rfl, _, rfl, ?_⟩
    by_cases g1 : (0 : Int) + (i : Int) > 0
    · refine iteP g1 ⟨_, rfl, _, rfl, _, _, rfl, rfl, _, rfl, ?_⟩
      by_cases g2 : pp.1 < pq.1
      · exact iteP g2 (iteT (bad2 (by omega) (by unfold ltP; rw [decide_eq_false (by omega), decide_eq_false (by omega)]; rfl)))
      refine iteN g2 ⟨_, rfl, _, rfl, rfl, _, rfl, ?_⟩
      by_cases g3 : pp.1 = pq.1
      · refine iteP (congrArg V.int g3) ⟨_, rfl, _, rfl, _, _, rfl, rfl, _, rfl, ?_⟩
        by_cases g4 : pp.2 ≤ pq.2
        · exact iteP g4 (bad2 (by omega) (by unfold ltP; rw [decide_eq_false (by omega), decide_eq_false (show ¬ pq.2 < pp.2 by omega)]; simp))
        · exact iteN g4 ⟨_, _, _, _, _, rfl, rfl, fin (.inr (by unfold ltP; rw [decide_eq_true (show pq.1 = pp.1 from g3.symm), decide_eq_true (show pq.2 < pp.2 by omega)]; simp))⟩
      · exact iteN (fun z => g3 (V.int.inj z)) (iteF ⟨_, _, _, _, _, rfl, rfl, fin (.inr (by unfold ltP; rw [decide_eq_true (show pq.1 < pp.1 by omega)]; rfl))⟩)
    · exact iteN g1 (iteF ⟨_, _, _, _, _, rfl, rfl, fin (.inl (by omega))⟩)
  · rintro σ H2 ⟨o1, o2, o3, o4, o5, rfl, rfl, al⟩
    have sAll : (List.range ps.length).all (stC c ps) = true := List.all_eq_true.mpr fun k hk => al k (by have := List.mem_range.mp hk; omega)
    unfold flB at q
    rw [lb, sAll, Bool.true_and, Bool.true_and] at q
    exact ⟨_, rfl, l, ps, rfl, hl, _, rfl, q⟩
theorem ok_Floors__Family___init__ {er : Er1} (EO : Er1Ok K mg er) {ca : ClA} (CA : ClOk K mg ca) {fd : FuncData} (F : Fun K "__init__" "Family.__init__" s_Floors__Family___init__ ca.f_Floors__Family___init__ fd) : FnOk P w K mg base CX0 1 ca.f_Floors__Family___init__ fd ["self", "word", "least"] (sp_Floors__Family___init__ K ca) := by
  refine F.ok sc_Floors__Family___init__ (fun vs H Q E h => ?_) (fun cdv A outer s H vs Q E hr h => ?_)
  · obtain ⟨x, dx, w, l, rfl, hx, q⟩ := h
    rfl
  obtain ⟨x, dx, w, l, rfl, hx, q⟩ := h
  refine ⟨_, pss_cons (ps_fld (pv 0) (pv 1) rfl)
    (pss_one (ps_fld (pv 0) (pv 2) rfl)), ?_⟩
  refine ⟨_, rfl, _, rfl, x, ca.C_Floors, dx, _, rfl, hx, CA.c_Floors, CA.na_Floors_word, (by show 0 < 1000; decide), ?_⟩
  refine ⟨_, rfl, _, rfl, x, ca.C_Floors, dx, _, rfl, upd_same, CA.c_Floors, CA.na_Floors_least, (by show 1 < 1000; decide), ?_⟩
  exact q _ _ upd_upd (flds_mk w l)
theorem ok_Floors__SplitFamily___init__ {er : Er1} (EO : Er1Ok K mg er) {ca : ClA} (CA : ClOk K mg ca) {fd : FuncData} (F : Fun K "__init__" "SplitFamily.__init__" s_Floors__SplitFamily___init__ ca.f_Floors__SplitFamily___init__ fd) {fd0 : FuncData} (d_Floors__Family___init__ : MDef P w K mg base ["self", "word", "least"] 1 (sp_Floors__Family___init__ K ca) ca.f_Floors__Family___init__ fd0) : FnOk P w K mg base CX0 3 ca.f_Floors__SplitFamily___init__ fd ["self", "word"] (sp_Floors__SplitFamily___init__ K ca) := by
  refine F.ok sc_Floors__SplitFamily___init__ (fun vs H Q E h => ?_) (fun cdv A outer s H vs Q E hr h => ?_)
  · obtain ⟨x, dx, w, rfl, hx, q⟩ := h
    rfl
  obtain ⟨x, dx, w, rfl, hx, q⟩ := h
  refine ⟨_, pss_one (ps_expr (pcls CA.m_Family CA.cm_Family___init___Floors d_Floors__Family___init__ hr (pa_cons (pv 0) (pa_cons (pv 1) (pa_cons pe_int pa_nil))))), ?_⟩
  exact ⟨_, rfl, _, rfl, x, dx, w, 0, rfl, hx, fun fs H' e f => q fs H' e f⟩
theorem ok_Floors____init__ {er : Er1} (EO : Er1Ok K mg er) {ca : ClA} (CA : ClOk K mg ca) {fd : FuncData} (F : Fun K "__init__" "Floors.__init__" s_Floors____init__ ca.f_Floors____init__ fd) {fd0 : FuncData} (d_Floors__SplitFamily___init__ : MDef P w K mg base ["self", "word"] 3 (sp_Floors__SplitFamily___init__ K ca) ca.f_Floors__SplitFamily___init__ fd0) : FnOk P w K mg base CX0 5 ca.f_Floors____init__ fd ["self"] (sp_Floors____init__ K ca) := by
  refine F.ok sc_Floors____init__ (fun vs H Q E h => ?_) (fun cdv A outer s H vs Q E hr h => ?_)
  · obtain ⟨x, dx, rfl, hx, q⟩ := h
    rfl
  obtain ⟨x, dx, rfl, hx, q⟩ := h
  refine ⟨_, pss_one (ps_expr (pcls CA.m_SplitFamily CA.cm_SplitFamily___init___Floors d_Floors__SplitFamily___init__ hr (pa_cons (pv 0) (pa_cons pe_str pa_nil)))), ?_⟩
  exact ⟨_, rfl, x, dx, _, rfl, hx, fun fs H' e f => q fs H' e f⟩
theorem ok_any_cross {er : Er1} (EO : Er1Ok K mg er) {ca : ClA} (CA : ClOk K mg ca) {f : Addr} {fd : FuncData} (F : Fun K "any_cross" "any_cross" s_any_cross f fd) : FnOk P w K mg base CX0 1 f fd ["pairs"] (sp_any_cross K ca) := by
  refine F.ok sc_any_cross (fun vs H Q E h => ?_) (fun cdv A outer s H vs Q E hr h => ?_)
  · obtain ⟨l, ps, rfl, hl, q⟩ := h
    rfl
  obtain ⟨l, ps, rfl, hl, q⟩ := h
  refine ⟨_, pss_cons (ps_for PassesOwn.never rfl (pi_list (pv 0)) (pg_tup rfl (pgs_cons (pg_name (i := 1) sc_any_cross.nd rfl (Or.inl rfl)) (pgs_cons (pg_name (i := 2) sc_any_cross.nd rfl (Or.inl rfl)) pgs_nil))) (pss_one (ps_for PassesOwn.never rfl (pi_list (pv 0)) (pg_tup rfl (pgs_cons (pg_name (i := 3) sc_any_cross.nd rfl (Or.inl rfl)) (pgs_cons (pg_name (i := 4) sc_any_cross.nd rfl (Or.inl rfl)) pgs_nil))) (pss_one (ps_if (pt_ch3 op_lt op_lt op_lt (pv 1) (pv 3) (pv 2) (pv 4)) (pss_one (ps_ret pe_bl)) pss_nil)))))
    (pss_one (ps_ret pe_bl)), ?_⟩
  obtain ⟨xs, el, lxs, pr⟩ := hl.len
  refine ⟨_, rfl, l, rfl, ⟨_, SqL.of el⟩, for_list (xs := xs) (fun i σ H' => ∃ (o1 o2 o3 o4 : Option V), σ = [some (.ref l), o1, o2, o3, o4] ∧ H = H' ∧ ∀ p ∈ ps.take i, ps.any (crsP p) = false) ⟨_, _, _, _, rfl, rfl, by simp⟩ (fun i σ H' _ h => by obtain ⟨_, _, _, _, _, rfl, _⟩ := h; exact SqL.of el) ?_ ?_⟩
  · rintro i v σ H2 hv ⟨o1, o2, o3, o4, rfl, rfl, al⟩
    obtain ⟨pp, tt, hpp, rfl, htt⟩ := pr.get hv
    refine ⟨tt, _, rfl, SqT.of htt, rfl, _, _, rfl, _, _, rfl, rfl, ?_⟩
    refine ⟨_, rfl, l, rfl, ⟨_, SqL.of el⟩, for_list (xs := xs) (fun j σ H' => ∃ (o3 o4 : Option V), σ = [some (.ref l), some (.int pp.1), some (.int pp.2), o3, o4] ∧ H = H' ∧ ∀ r ∈ ps.take j, crsP pp r = false) ⟨_, _, rfl, rfl, by simp⟩ (fun i σ H' _ h => by obtain ⟨_, _, _, rfl, _⟩ := h; exact SqL.of el) ?_ ?_⟩
    · rintro j v σ H3 hv ⟨o3, o4, rfl, rfl, al2⟩
      obtain ⟨rr, t2, hrr, rfl, ht2⟩ := pr.get hv
      refine ⟨t2, _, rfl, SqT.of ht2, rfl, _, _, rfl, _, _, rfl, rfl, ?_⟩
      have next : crsP pp rr = false → ∀ r ∈ ps.take (j + 1), crsP pp r = false := fun hc r hr => by
        rw [List.take_add_one, hrr] at hr
        rcases List.mem_append.mp hr with z | z
        · exact al2 r z
        · have : r = rr := by simpa using z
          rw [this]; exact hc
      refine ⟨_, rfl, _, rfl, _, _, rfl, rfl, _, rfl, ?_⟩
      by_cases c1 : pp.1 < rr.1
      · refine iteP c1 ⟨_, rfl, _, _, rfl, rfl, _, rfl, ?_⟩
        by_cases c2 : rr.1 < pp.2
        · refine iteP c2 ⟨_, rfl, _, _, rfl, rfl, _, rfl, ?_⟩
          by_cases c3 : pp.2 < rr.2
          · refine iteP c3 ?_
            have : crossB ps = true := crossB_iff.mpr ⟨pp, List.mem_of_getElem? hpp, rr, List.mem_of_getElem? hrr, c1, c2, c3⟩
            rw [this] at q
            exact q
          · exact iteN c3 ⟨_, _, rfl, rfl, next (by unfold crsP; simp [c3])⟩
        · exact iteN c2 ⟨_, rfl, iteF ⟨_, _, rfl, rfl, next (by unfold crsP; simp [c2])⟩⟩
      · exact iteN c1 ⟨_, rfl, iteF ⟨_, _, rfl, rfl, next (by unfold crsP; simp [c1])⟩⟩
    · rintro σ H3 ⟨o3, o4, rfl, rfl, al2⟩
      rw [List.take_of_length_le (by omega)] at al2
      refine ⟨_, _, _, _, rfl, rfl, fun p hp => ?_⟩
      rw [List.take_add_one, hpp] at hp
      rcases List.mem_append.mp hp with z | z
      · exact al p z
      · have : p = pp := by simpa using z
        rw [this, List.any_eq_false]
        intro r hr
        rw [al2 r hr]
        decide
  · rintro σ H2 ⟨o1, o2, o3, o4, rfl, rfl, al⟩
    rw [List.take_of_length_le (by omega)] at al
    have : crossB ps = false := by
      unfold crossB
      rw [List.any_eq_false]
      intro p hp
      rw [al p hp]
      decide
    rw [this] at q
    exact q
theorem ok_may_be_cut {er : Er1} (EO : Er1Ok K mg er) {ca : ClA} (CA : ClOk K mg ca) {f : Addr} {fd : FuncData} (F : Fun K "may_be_cut" "may_be_cut" s_may_be_cut f fd) : FnOk P w K mg base CX0 1 f fd ["corners", "a", "b"] (sp_may_be_cut K ca) := by
  refine F.ok sc_may_be_cut (fun vs H Q E h => ?_) (fun cdv A outer s H vs Q E hr h => ?_)
  · obtain ⟨c, a, b, rfl, q⟩ := h
    rfl
  obtain ⟨c, a, b, rfl, q⟩ := h
  refine ⟨_, pss_one (ps_ret (pe_and (pe_chain op_le op_lt pe_int (pv 1) (pe_op op_sub (pv 2) pe_int)) (pe_and (pe_cmpR op_lt (pv 2) (pv 0) (nomark _)) (pe_one (pe_cmpR (op_neD (hu100 hr)) (pe_tup (pa_cons (pv 1) (pa_cons (pv 2) pa_nil))) (pe_tup (pa_cons pe_int (pa_cons (pe_op op_sub (pv 0) pe_int) pa_nil))) (nomark _)))))), ?_⟩
  unfold cutB at q
  dsimp only at q
  refine ⟨_, rfl, _, _, rfl, rfl, _, rfl, ?_⟩
  by_cases c1 : 0 ≤ a
  · rw [decide_eq_true c1, Bool.true_and] at q
    refine iteP c1 ⟨_, rfl, _, _, rfl, rfl, _, _, rfl, rfl, _, rfl, ?_⟩
    by_cases c2 : a < b - 1
    · rw [decide_eq_true c2, Bool.true_and] at q
      refine iteP c2 ⟨_, rfl, _, rfl, _, _, rfl, rfl, _, rfl, ?_⟩
      by_cases c3 : b < c
      · rw [decide_eq_true c3, Bool.true_and] at q
        refine iteP c3 ⟨_, rfl, _, rfl, (by show 2 ≤ sizeLine; decide), fun t1 ht1 => ⟨_, rfl, _, _, rfl, rfl, (by show 2 ≤ sizeLine; decide), fun t2 ht2 => ?_⟩⟩
        have n12 : t1 ≠ t2 := ne_of_none upd_same ht2
        have h1 := (upd_ne (o := .tup [.int 0, .int (c - 1)]) n12).trans (upd_same (H := H) (a := t1) (o := .tup [.int a, .int b]))
        have s2 := Same.new (Same.new (Same.refl H) ht1 (.tup [.int a, .int b])) ht2 (.tup [.int 0, .int (c - 1)])
        exact ⟨1, _, by decide, EqD.two n12 h1 upd_same, ⟨t1, t2, rfl, rfl, n12⟩, q _ s2⟩
      · rw [decide_eq_false c3] at q
        exact iteN c3 (q H (Same.refl H))
    · rw [decide_eq_false c2, Bool.false_and] at q
      exact iteN c2 (q H (Same.refl H))
  · rw [decide_eq_false c1, Bool.false_and] at q
    exact iteN c1 ⟨_, rfl, iteF (q H (Same.refl H))⟩
theorem ok_Floors__is_one {er : Er1} (EO : Er1Ok K mg er) {ca : ClA} (CA : ClOk K mg ca) {fd : FuncData} (F : Fun K "is_one" "Floors.is_one" s_Floors__is_one ca.f_Floors__is_one fd) {f0 : Addr} {fd0 : FuncData} (d_any_cross : Def P w K mg base "any_cross" ["pairs"] 1 (sp_any_cross K ca) f0 fd0) {f1 : Addr} {fd1 : FuncData} (d_may_be_cut : Def P w K mg base "may_be_cut" ["corners", "a", "b"] 1 (sp_may_be_cut K ca) f1 fd1) (m_len : mg "len" = none) (m_max : mg "max" = none) (m_sorted : mg "sorted" = none) (m_set : mg "set" = none) (m_all : mg "all" = none) : FnOk P w K mg base CX0 2 ca.f_Floors__is_one fd ["self", "thing"] (sp_Floors__is_one K ca) := by
  refine F.ok sc_Floors__is_one (fun vs H Q E h => ?_) (fun cdv A outer s H vs Q E hr h => ?_)
  · obtain ⟨x, t, l, c, ps, rfl, ht, hl, h60, q⟩ := h
    rfl
  obtain ⟨x, t, l, c, ps, rfl, ht, hl, h60, q⟩ := h
  refine ⟨_, pss_cons (ps_set (i := 2) sc_Floors__is_one.nd rfl (Or.inr rfl) (pe_ix ix_tup (pv 1) pe_int (fun _ _ => rfl)))
    (pss_cons (ps_set (i := 3) sc_Floors__is_one.nd rfl (Or.inl rfl) (pe_ix ix_tup (pv 1) pe_int (fun _ _ => rfl)))
    (pss_cons (ps_if (PW.pt (pw_or (pt_cmpR op_lt (pv 2) pe_int (nomark _)) (pw_or1 (pt_cmpR op_ne (pe_callB call_len_seq rfl m_len bb_len (pa_cons (pv 3) pa_nil)) (pe_callB (call_max2 rfl) rfl m_max bb_max (pa_cons pe_int (pa_cons (pe_op op_sub (pv 2) pe_int) pa_nil))) (nomark _))))) (pss_one (ps_ret pe_bl)) pss_nil)
    (pss_cons (ps_if (PW.pt (pw_or (pt_cmpR (op_neD (hu100 hr)) (pv 3) (pe_sortsetD rfl (hu100 hr) rfl m_sorted rfl m_set (pa_cons (pv 3) pa_nil)) (nomark _)) (pw_or1 (pt_val (pcall d_any_cross hr (pa_cons (pv 3) pa_nil)))))) (pss_one (ps_ret pe_bl)) pss_nil)
    (pss_one (ps_ret (pe_callB (call_all rfl) rfl m_all bb_all (pa_cons (pe_comp rfl (pi_list (pv 3)) rfl rfl rfl rfl (N := ["a", "b", "corners"]) (.own (.own (.cap (j := 2) rfl rfl rfl .nil))) (fun _ _ _ _ _ _ => (pg_tupK (K := K) (n := 2) rfl rfl (pgs_cons (pg_name (i := 0) (by show List.Nodup (["a", "b", "corners"] : List Str); decide +kernel) rfl (Or.inl rfl)) (pgs_cons (pg_name (i := 1) (by show List.Nodup (["a", "b", "corners"] : List Str); decide +kernel) rfl (Or.inl rfl)) pgs_nil)))) (fun _ _ _ _ _ _ => pts_nil) (fun _ _ _ _ _ _ => (pcall d_may_be_cut hr (pa_cons (pv 2) (pa_cons (pv 0) (pa_cons (pv 1) pa_nil)))))) pa_nil))))))), ?_⟩
  obtain ⟨xs, el, lxs, pr⟩ := hl.len
  have nolen : lenB c ps.length = false → Q (.bl false) H := fun z => by
    have := q H (Same.refl H)
    rw [flB_no z] at this
    exact this
  refine ⟨_, rfl, t, _, _, _, rfl, rfl, SqT.of ht, rfl, _, rfl, t, _, _, _, rfl, rfl, SqT.of ht, rfl, ?_⟩
  refine ⟨_, rfl, _, _, rfl, rfl, _, rfl, ?_⟩
  by_cases c1 : c < 2
  · exact iteP c1 (iteT (nolen (by unfold lenB; rw [decide_eq_false (by omega), Bool.false_and])))
  refine iteN c1 ⟨_, rfl, l, _, rfl, .inl (SqL.of el), _, rfl, _, _, rfl, rfl, _, _, rfl, rfl, _, rfl, ?_⟩
  by_cases c2 : ((xs.length : Nat) : Int) = if c - 3 > 0 then c - 3 else 0
  case neg =>
    refine iteNN (ne_int c2) (nolen ?_)
    unfold lenB
    rw [decide_eq_false (show ¬ ((ps.length : Nat) : Int) = _ by rw [← lxs]; exact c2), Bool.and_false]
  have lb : lenB c ps.length = true := by
    unfold lenB
    rw [Bool.and_eq_true, decide_eq_true_iff, decide_eq_true_iff]
    exact ⟨by omega, by rw [← lxs]; exact c2⟩
  refine iteNS (congrArg V.int c2) ⟨_, rfl, _, rfl, l, ps, rfl, hl, by omega, fun pq qs H1 s1 f1 h1 nd mm rs => ?_⟩
  have hl1 := hl.same s1
  have ne : l ≠ pq := ne_of_none el f1
  refine ⟨2, _, by decide, EqD.prs ne hl1 h1, ⟨l, pq, rfl, rfl, ne⟩, _, rfl, ?_⟩
  by_cases e : ps = qs
  case neg =>
    rw [flB_mix nd mm rs e] at q
    rw [decide_eq_false e]
    exact iteT (iteT (q _ s1))
  rw [decide_eq_true e]
  subst e
  rw [flB_rest nd rs lb] at q
  refine iteF ⟨_, rfl, l, ps, rfl, hl1, _, rfl, ?_⟩
  cases hc : crossB ps with
  | true =>
    rw [hc, Bool.not_true, Bool.false_and] at q
    exact iteT (q _ s1)
  | false =>
    rw [hc, Bool.not_false, Bool.true_and] at q
    refine iteF ⟨_, rfl, l, rfl, ⟨_, SqL.of (s1 _ _ el)⟩, fun D hD => comp_walk (xs := xs) (fun i ys H' => Same H1 H' ∧ H' D = some (.lst ys) ∧ ys = ((ps.take i).map fun p => cutB c p).map V.bl ∧ i ≤ ps.length) (sz (by omega)) ⟨Same.new (Same.refl H1) hD _, upd_same, rfl, Nat.zero_le _⟩ (fun i ys H' hi h => ⟨SqL.of (h.1 _ _ (s1 _ _ el)), ?_⟩) (fun i y ys H' R R0 hx h r r0 => ?_) (fun ys H' h => ?_)⟩
    · rw [h.2.2.1, List.length_map, List.length_map, List.length_take]
      omega
    · obtain ⟨sm, hy, ey, hi⟩ := h
      obtain ⟨pp, tt, hpp, rfl, htt⟩ := (pr.same s1).get hx
      have hlt : i < ps.length := (List.getElem?_eq_some_iff.mp hpp).1
      refine ⟨tt, _, rfl, SqT.of (sm _ _ htt), rfl, _, _, rfl, _, _, rfl, rfl, (Ext.set rfl).trans (Ext.set rfl), ttN (iteT ?_)⟩
      refine ⟨_, rfl, _, rfl, _, rfl, c, pp.1, pp.2, rfl, fun H3 s3 => r _ _ (s3 _ _ hy) ⟨(sm.trans s3).upd hD _, upd_same, ?_, hlt⟩⟩
      rw [List.take_add_one, hpp, List.map_append, List.map_append, ← ey]
      rfl
    · obtain ⟨sm, hy, ey, hi⟩ := h
      rw [List.take_of_length_le (by omega)] at ey
      rw [ey] at hy
      refine ⟨D, _, rfl, SqL.of hy, ?_⟩
      have e2 : ((ps.map fun p => cutB c p).all id) = ps.all (cutB c) := by rw [List.all_map]; rfl
      rw [e2]
      exact q _ (s1.trans sm)
theorem ok_Floors__Family_refuse_other {er : Er1} (EO : Er1Ok K mg er) {ca : ClA} (CA : ClOk K mg ca) {fd : FuncData} (F : Fun K "refuse_other" "Family.refuse_other" s_Floors__Family_refuse_other ca.f_Floors__Family_refuse_other fd) {fd0 : FuncData} (d_Floors__is_one : MDef P w K mg base ["self", "thing"] 2 (sp_Floors__is_one K ca) ca.f_Floors__is_one fd0) : FnOk P w K mg base (CX1 P w) 3 ca.f_Floors__Family_refuse_other fd ["self", "thing"] (sp_Floors__Family_refuse_other K ca er) := by
  refine F.okE sc_Floors__Family_refuse_other (fun vs H Q E h => ?_) (fun cdv A outer s H vs Q E hr h => ?_)
  · obtain ⟨x, dx, fs, t, l, c, ps, rfl, hx, fl, ht, hl, hz, hB, q⟩ := h
    rfl
  obtain ⟨x, dx, fs, t, l, c, ps, rfl, hx, fl, ht, hl, hz, hB, q⟩ := h
  refine ⟨_, pss_one (ps_if (pt_not (pt_val (pmeth (pv 0) CA.c_Floors CA.mt_Floors_is_one d_Floors__is_one hr (pa_cons (pv 1) pa_nil)))) (pss_one (ps_raise thr_def EO.x_thing rfl EO.m_thing (pa_cons pe_str pa_nil))) pss_nil), ?_⟩
  refine ⟨_, rfl, x, dx, fs, rfl, hx, fl.no "is_one" (by decide) (by decide), _, rfl, x, t, l, c, ps, rfl, ht, hl, hz, fun H1 s1 => ⟨_, rfl, ?_⟩⟩
  rw [hB]
  exact iteT ⟨sz (n := 1) (by decide), q H1 s1⟩
theorem ok_Floors__Family_number_of {er : Er1} (EO : Er1Ok K mg er) {ca : ClA} (CA : ClOk K mg ca) {fd : FuncData} (F : Fun K "number_of" "Family.number_of" s_Floors__Family_number_of ca.f_Floors__Family_number_of fd) {fd0 : FuncData} (d_Floors__Family_refuse_other : MDef P w K mg base ["self", "thing"] 3 (sp_Floors__Family_refuse_other K ca er) ca.f_Floors__Family_refuse_other fd0) : FnOk P w K mg base (CX1 P w) 4 ca.f_Floors__Family_number_of fd ["self", "thing"] (sp_Floors__Family_number_of K ca er) := by
  refine F.okE sc_Floors__Family_number_of (fun vs H Q E h => ?_) (fun cdv A outer s H vs Q E hr h => ?_)
  · obtain ⟨x, dx, fs, t, l, c, ps, rfl, hx, fl, ht, hl, hz, hB, q⟩ := h
    rfl
  obtain ⟨x, dx, fs, t, l, c, ps, rfl, hx, fl, ht, hl, hz, hB, q⟩ := h
  refine ⟨_, pss_cons (ps_expr (pmethT thr_def (pv 0) CA.c_Floors CA.mt_Floors_refuse_other d_Floors__Family_refuse_other hr (pa_cons (pv 1) pa_nil)))
    pss_never, ?_⟩
  exact ⟨_, rfl, x, dx, fs, rfl, hx, fl.no "refuse_other" (by decide) (by decide), _, rfl, x, dx, fs, t, l, c, ps, rfl, hx, fl, ht, hl, hz, hB, q⟩
theorem ok_Floors__Family_next_of {er : Er1} (EO : Er1Ok K mg er) {ca : ClA} (CA : ClOk K mg ca) {fd : FuncData} (F : Fun K "next_of" "Family.next_of" s_Floors__Family_next_of ca.f_Floors__Family_next_of fd) {fd0 : FuncData} (d_Floors__Family_number_of : MDef P w K mg base ["self", "thing"] 4 (sp_Floors__Family_number_of K ca er) ca.f_Floors__Family_number_of fd0) : FnOk P w K mg base (CX1 P w) 5 ca.f_Floors__Family_next_of fd ["self", "thing"] (sp_Floors__Family_next_of K ca er) := by
  refine F.okE sc_Floors__Family_next_of (fun vs H Q E h => ?_) (fun cdv A outer s H vs Q E hr h => ?_)
  · obtain ⟨x, dx, fs, t, l, c, ps, rfl, hx, fl, ht, hl, hz, hB, q⟩ := h
    rfl
  obtain ⟨x, dx, fs, t, l, c, ps, rfl, hx, fl, ht, hl, hz, hB, q⟩ := h
  refine ⟨_, pss_cons (ps_set (i := 2) sc_Floors__Family_next_of.nd rfl (Or.inl rfl) (pe_op op_add (pmethT thr_def (pv 0) CA.c_Floors CA.mt_Floors_number_of d_Floors__Family_number_of hr (pa_cons (pv 1) pa_nil)) pe_int))
    pss_never, ?_⟩
  exact ⟨_, rfl, x, dx, fs, rfl, hx, fl.no "number_of" (by decide) (by decide), _, rfl, x, dx, fs, t, l, c, ps, rfl, hx, fl, ht, hl, hz, hB, q⟩
theorem ok__law_refused {er : Er1} (EO : Er1Ok K mg er) {ca : ClA} (CA : ClOk K mg ca) {f : Addr} {fd : FuncData} (F : Fun K "_law_refused" "_law_refused" s__law_refused f fd) {fd0 : FuncData} (d_Floors__Family_number_of : MDef P w K mg base ["self", "thing"] 4 (sp_Floors__Family_number_of K ca er) ca.f_Floors__Family_number_of fd0) {fd1 : FuncData} (d_Floors__Family_next_of : MDef P w K mg base ["self", "thing"] 5 (sp_Floors__Family_next_of K ca er) ca.f_Floors__Family_next_of fd1) : FnOk P w K mg base CX0 6 f fd ["_law_kin", "_law_corners", "_law_cuts_here"] (sp__law_refused K ca er) := by
  refine F.ok sc__law_refused (fun vs H Q E h => ?_) (fun cdv A outer s H vs Q E hr h => ?_)
  · obtain ⟨x, dx, fs, l, c, ps, rfl, hx, fl, hl, hz, hB, q⟩ := h
    rfl
  obtain ⟨x, dx, fs, l, c, ps, rfl, hx, fl, hl, hz, hB, q⟩ := h
  refine ⟨_, pss_cons (ps_set (i := 3) sc__law_refused.nd rfl (Or.inl rfl) pe_int)
    (pss_cons (ps_tryNo rfl rfl rfl rfl EO.m_thing (px_meth (fun _ _ => (pv 0)) CA.c_Floors CA.mt_Floors_number_of d_Floors__Family_number_of hr (fun _ _ => (pa_cons (pe_tup (pa_cons (pv 1) (pa_cons (pv 2) pa_nil))) pa_nil))) (fun _ => (pss_one (ps_set (i := 3) sc__law_refused.nd rfl (Or.inl rfl) (pe_op op_add (pv 3) pe_int)))))
    (pss_cons (ps_tryNo rfl rfl rfl rfl EO.m_thing (px_meth (fun _ _ => (pv 0)) CA.c_Floors CA.mt_Floors_next_of d_Floors__Family_next_of hr (fun _ _ => (pa_cons (pe_tup (pa_cons (pv 1) (pa_cons (pv 2) pa_nil))) pa_nil))) (fun _ => (pss_one (ps_set (i := 3) sc__law_refused.nd rfl (Or.inl rfl) (pe_op op_add (pv 3) pe_int)))))
    (pss_one (ps_ret (pe_cmpR op_eq (pv 3) pe_int (nomark _)))))), ?_⟩
  refine ⟨_, rfl, x, dx, fs, rfl, hx, fl.no "number_of" (by decide) (by decide), _, rfl, _, rfl, (by show 2 ≤ sizeLine; decide), fun t1 ht1 => ?_⟩
  have k1 := Same.new (Same.refl H) ht1 (.tup [.int c, .ref l])
  refine ⟨x, dx, fs, t1, l, c, ps, rfl, k1 _ _ hx, fl, upd_same, hl.same k1, hz, hB, fun H1 s1 => ⟨EO.t_thing, _, rfl, _, _, rfl, rfl, ?_⟩⟩
  have t1' := k1.trans s1
  refine ⟨_, rfl, x, dx, fs, rfl, t1' _ _ hx, fl.no "next_of" (by decide) (by decide), _, rfl, _, rfl, (by show 2 ≤ sizeLine; decide), fun t2 ht2 => ?_⟩
  have k2 := Same.new t1' ht2 (.tup [.int c, .ref l])
  refine ⟨x, dx, fs, t2, l, c, ps, rfl, k2 _ _ hx, fl, upd_same, hl.same k2, hz, hB, fun H2 s2 => ⟨EO.t_thing, _, rfl, _, _, rfl, rfl, ?_⟩⟩
  exact ⟨_, rfl, rfl, q _ (k2.trans s2)⟩
theorem ok_Floors__size_of {er : Er1} (EO : Er1Ok K mg er) {ca : ClA} (CA : ClOk K mg ca) {fd : FuncData} (F : Fun K "size_of" "Floors.size_of" s_Floors__size_of ca.f_Floors__size_of fd) : FnOk P w K mg base CX0 1 ca.f_Floors__size_of fd ["self", "thing"] (sp_Floors__size_of K ca) := by
  refine F.ok sc_Floors__size_of (fun vs H Q E h => ?_) (fun cdv A outer s H vs Q E hr h => ?_)
  · obtain ⟨x, t, l, c, rfl, ht, q⟩ := h
    rfl
  obtain ⟨x, t, l, c, rfl, ht, q⟩ := h
  refine ⟨_, pss_one (ps_ret (pe_op op_sub (pe_ix ix_tup (pv 1) pe_int (fun _ _ => rfl)) pe_int)), ?_⟩
  exact ⟨_, rfl, t, _, _, _, rfl, rfl, SqT.of ht, rfl, _, _, rfl, rfl, q⟩
theorem ok_law {er : Er1} (EO : Er1Ok K mg er) {ca : ClA} (CA : ClOk K mg ca) {f : Addr} {fd : FuncData} (F : Fun K "law" "law" s_law f fd) {f0 : Addr} {fd0 : FuncData} (d__law_cell_at : Def P w K mg base "_law_cell_at" ["_law_script", "_law_k"] 1 (sp__law_cell_at K ca) f0 fd0) {f1 : Addr} {fd1 : FuncData} (d__law_cuts : Def P w K mg base "_law_cuts" ["_law_script", "_law_size", "_law_turn"] 2 (sp__law_cuts K ca) f1 fd1) {f2 : Addr} {fd2 : FuncData} (d__law_draws : Def P w K mg base "_law_draws" ["_law_script", "_law_turn", "_law_many"] 1 (sp__law_draws K ca) f2 fd2) {f3 : Addr} {fd3 : FuncData} (d__law_changed : Def P w K mg base "_law_changed" ["_law_cuts_here", "_law_corners", "_law_draws_here", "_law_far", "_law_turn"] 2 (sp__law_changed K ca) f3 fd3) {f4 : Addr} {fd4 : FuncData} (d__law_by_chance : Def P w K mg base "_law_by_chance" ["_law_script"] 2 (sp__law_by_chance K ca) f4 fd4) {f5 : Addr} {fd5 : FuncData} (d__law_stand : Def P w K mg base "_law_stand" ["_law_corners", "_law_cuts_here"] 2 (sp__law_stand K ca) f5 fd5) {fd6 : FuncData} (d_Floors____init__ : MDef P w K mg base ["self"] 5 (sp_Floors____init__ K ca) ca.f_Floors____init__ fd6) {fd7 : FuncData} (d_Floors__is_one : MDef P w K mg base ["self", "thing"] 2 (sp_Floors__is_one K ca) ca.f_Floors__is_one fd7) {f8 : Addr} {fd8 : FuncData} (d__law_refused : Def P w K mg base "_law_refused" ["_law_kin", "_law_corners", "_law_cuts_here"] 6 (sp__law_refused K ca er) f8 fd8) {fd9 : FuncData} (d_Floors__size_of : MDef P w K mg base ["self", "thing"] 1 (sp_Floors__size_of K ca) ca.f_Floors__size_of fd9) (m_list : mg "list" = none) (m_len : mg "len" = none) (m_isinstance : mg "isinstance" = none) (m_bool : mg "bool" = none) (m_int : mg "int" = none) : FnOk P w K mg base CX0 7 f fd ["_law_script"] (sp_law K ca er) := by
  refine F.ok sc_law (fun vs H Q E h => ?_) (fun cdv A outer s H vs Q E hr h => ?_)
  · obtain ⟨a, ns, rfl, hS, h63, q⟩ := h
    rfl
  obtain ⟨a, ns, rfl, hS, h63, q⟩ := h
  refine ⟨_, pss_cons (ps_set (i := 1) sc_law.nd rfl (Or.inl rfl) (pe_op op_mod (pcall d__law_cell_at hr (pa_cons (pv 0) (pa_cons pe_int pa_nil))) pe_int))
    (pss_cons (ps_set (i := 2) sc_law.nd rfl (Or.inl rfl) (pcall d__law_cuts hr (pa_cons (pv 0) (pa_cons (pv 1) (pa_cons pe_int pa_nil)))))
    (pss_cons (ps_set (i := 3) sc_law.nd rfl (Or.inl rfl) (pe_op op_add (pv 1) pe_int))
    (pss_cons (ps_set (i := 4) sc_law.nd rfl (Or.inl rfl) (pe_op op_mod (pcall d__law_cell_at hr (pa_cons (pv 0) (pa_cons pe_int pa_nil))) pe_int))
    (pss_cons (ps_set (i := 5) sc_law.nd rfl (Or.inl rfl) (pcall d__law_draws hr (pa_cons (pv 0) (pa_cons pe_int (pa_cons pe_int pa_nil)))))
    (pss_cons (ps_set (i := 6) sc_law.nd rfl (Or.inl rfl) (pe_callTy call_list_of rfl m_list bb_list (pa_cons (pv 2) pa_nil)))
    (pss_cut (ps_if (PW.pt (pw_and (pt_cmpR op_gt (pv 4) pe_int (nomark _)) (pw_and (pt_cmpR op_lt (pv 4) pe_int (nomark _)) (pw_and1 (pt_cmpR op_gt (pe_callB call_len_seq rfl m_len bb_len (pa_cons (pv 2) pa_nil)) pe_int (nomark _)))))) (pss_one (ps_set (i := 6) sc_law.nd rfl (Or.inl rfl) (pcall d__law_changed hr (pa_cons (pv 6) (pa_cons (pv 3) (pa_cons (pv 5) (pa_cons (pcall d__law_cell_at hr (pa_cons (pv 0) (pa_cons pe_int pa_nil))) (pa_cons (pv 4) pa_nil)))))))) pss_nil)
    (pss_cut (ps_if (pt_cmpR op_eq (pv 4) pe_int (nomark _)) (pss_one (ps_set (i := 3) sc_law.nd rfl (Or.inl rfl) (pe_ix ix_list (pe_lst (pa_cons (pe_op op_add (pv 3) pe_int) (pa_cons (pe_op op_sub (pv 3) pe_int) (pa_cons (pe_op op_sub (pe_op op_mod (pe_ix ix_list (pv 5) pe_int (fun _ _ => rfl)) pe_int) pe_int) (pa_cons pe_int pa_nil))))) (pe_op op_mod (pe_ix ix_list (pv 5) pe_int (fun _ _ => rfl)) pe_int) (fun _ _ => rfl)))) pss_nil)
    (pss_cut (ps_if (pt_cmpR op_eq (pv 4) pe_int (nomark _)) (pss_one (ps_asg (pcall d__law_by_chance hr (pa_cons (pv 0) pa_nil)) (pg_tup rfl (pgs_cons (pg_name (i := 3) sc_law.nd rfl (Or.inl rfl)) (pgs_cons (pg_name (i := 6) sc_law.nd rfl (Or.inl rfl)) pgs_nil))))) pss_nil)
    (pss_cons (ps_set (i := 7) sc_law.nd rfl (Or.inl rfl) (pcall d__law_stand hr (pa_cons (pv 3) (pa_cons (pv 6) pa_nil))))
    (pss_cons (ps_set (i := 8) sc_law.nd rfl (Or.inl rfl) (pmake0 CA.mk_Floors CA.m_Floors d_Floors____init__ hr))
    (pss_cons (ps_set (i := 9) sc_law.nd rfl (Or.inl rfl) (pe_callTy call_list_of rfl m_list bb_list (pa_cons (pv 6) pa_nil)))
    (pss_cons (ps_set (i := 10) sc_law.nd rfl (Or.inl rfl) (pmeth (pv 8) CA.c_Floors CA.mt_Floors_is_one d_Floors__is_one hr (pa_cons (pe_tup (pa_cons (pv 3) (pa_cons (pv 9) pa_nil))) pa_nil)))
    (pss_cons (ps_if (PW.pt (pw_or (pt_not (pt_val (pe_callB call_isinst rfl m_isinstance bb_isinstance (pa_cons (pv 10) (pa_cons (pe_bltn (v := .ty "bool") rfl m_bool bb_bool rfl) pa_nil))))) (pw_or1 (pt_cmpR op_ne (pv 10) (pv 7) (nomark _))))) (pss_one (ps_ret pe_bl)) pss_nil)
    (pss_cut (ps_if (PW.pt (pw_and (pt_not (pt_val (pv 7))) (pw_and1 (pt_not (pt_val (pcall d__law_refused hr (pa_cons (pv 8) (pa_cons (pv 3) (pa_cons (pv 9) pa_nil))))))))) (pss_one (ps_ret pe_bl)) pss_nil)
    (pss_cons (ps_set (i := 11) sc_law.nd rfl (Or.inl rfl) (pe_op op_sub (pv 3) pe_int))
    (pss_cut (ps_if (pt_val (pv 7)) (pss_one (ps_set (i := 11) sc_law.nd rfl (Or.inl rfl) (pmeth (pv 8) CA.c_Floors CA.mt_Floors_size_of d_Floors__size_of hr (pa_cons (pe_tup (pa_cons (pv 3) (pa_cons (pv 9) pa_nil))) pa_nil)))) pss_nil)
    (pss_cons (ps_if (PW.pt (pw_or (pt_not (pt_val (pe_callB call_isinst rfl m_isinstance bb_isinstance (pa_cons (pv 11) (pa_cons (pe_bltn (v := .ty "int") rfl m_int bb_int rfl) pa_nil))))) (pw_or (pt_val (pe_callB call_isinst rfl m_isinstance bb_isinstance (pa_cons (pv 11) (pa_cons (pe_bltn (v := .ty "bool") rfl m_bool bb_bool rfl) pa_nil)))) (pw_or1 (pt_cmpR op_ne (pv 11) (pe_op op_sub (pv 3) pe_int) (nomark _)))))) (pss_one (ps_ret pe_bl)) pss_nil)
    (pss_cons (ps_if (PW.pt (pw_or (pt_cmpR (op_neD (hu100 hr)) (pv 9) (pv 6) (nomark _)) (pw_or1 (pt_cmpR op_notB (pmeth (pv 8) CA.c_Floors CA.mt_Floors_is_one d_Floors__is_one hr (pa_cons (pe_tup (pa_cons (pe_op op_add (pv 1) pe_int) (pa_cons (pv 2) pa_nil))) pa_nil)) pe_bl (nomark _))))) (pss_one (ps_ret pe_bl)) pss_nil)
    (pss_cons (ps_expr (pe_bm PySem.F.plainAttrs_list PySem.F.slot_list_append PySem.F.type_list_append mt_append (pv 9) (pa_cons (pe_tup (pa_cons pe_int (pa_cons pe_int pa_nil))) pa_nil)))
    (pss_one (ps_ret (pe_cmpR op_isB (pmeth (pv 8) CA.c_Floors CA.mt_Floors_is_one d_Floors__is_one hr (pa_cons (pe_tup (pa_cons (pv 3) (pa_cons (pv 9) pa_nil))) pa_nil)) pe_bl (nomark _))))))))))))))))))))))), ?_⟩
  have m0 := Int.emod_nonneg (ns.getD (0 : Int).toNat 0) (show (41 : Int) ≠ 0 by decide)
  have m1 := Int.emod_lt_of_pos (ns.getD (0 : Int).toNat 0) (show (0 : Int) < 41 by decide)
  refine ⟨_, rfl, a, ns, 0, rfl, hS, by decide, _, _, rfl, rfl, pm (by decide), ?_⟩
  try dsimp only
  generalize ns.getD (0 : Int).toNat 0 % 41 = z at m0 m1 ⊢
  obtain ⟨n, rfl⟩ : ∃ n : Nat, z = (n : Int) := ⟨z.toNat, by omega⟩
  refine ⟨_, rfl, _, rfl, a, ns, n, 2, rfl, hS, h63, by omega, by decide, by decide, fun pf ws H1 s1 ff hf tr etr ptr rsw => ?_⟩
  have good := (fl_of ptr rsw).flB
  have lf := (fl_of ptr rsw).len
  rw [etr] at good lf
  have lw : ws.length ≤ 40 := by
    have : (ws.length : Int) ≤ 40 := by rw [lf]; split <;> omega
    omega
  obtain ⟨vf, ef, lvf, prf⟩ := hf.len
  refine ⟨_, rfl, _, _, rfl, rfl, ?_⟩
  have t0 := Int.emod_nonneg (ns.getD (1 : Int).toNat 0) (show (12 : Int) ≠ 0 by decide)
  have t1 := Int.emod_lt_of_pos (ns.getD (1 : Int).toNat 0) (show (0 : Int) < 12 by decide)
  refine ⟨_, rfl, a, ns, 1, rfl, s1.seq hS, by decide, _, _, rfl, rfl, pm (by decide), ?_⟩
  try dsimp only
  generalize ns.getD (1 : Int).toNat 0 % 12 = t at t0 t1 ⊢
  refine ⟨_, rfl, a, ns, 200, 4, rfl, s1.seq hS, h63, by decide, by decide, by decide, by decide, fun pd xs H2 s2 fd hd lx bx => ?_⟩
  have s12 := s1.trans s2
  have hf2 := hf.same s2
  have ef2 := s2 _ _ ef
  refine ⟨_, rfl, pf, _, rfl, .inl (SqL.of ef2), fun pl hpl => ?_⟩
  have k3 := Same.new (Same.refl H2) hpl (.lst vf)
  have hl3 : PLs (upd H2 pl (.lst vf)) pl ws := ⟨vf, upd_same, (prf.same s2).updN hpl _⟩
  have hd3 := k3 _ _ hd
  have ndl : pl ≠ pd := fun z => by rw [z, hd] at hpl; cases hpl
  generalize upd H2 pl (.lst vf) = H3 at k3 hl3 hd3 ⊢
  refine ⟨fun σ H' => ∃ (o2 o3 o4 o5 o6 : Option V) (p : Addr) (ms : List Pair), σ = [some (.ref a), some (.int (n : Int)), some (.ref pf), some (.int ((n : Int) + 2)), some (.int t), some (.ref pd), some (.ref p), o2, o3, o4, o5, o6] ∧ Same H2 H' ∧ H2 p = none ∧ PLs H' p ms ∧ ms.length ≤ 41, ?_, ?_⟩
  · refine ⟨_, rfl, _, _, rfl, rfl, _, rfl, ?_⟩
    by_cases c1 : t > 1
    · refine iteP c1 ⟨_, rfl, _, _, rfl, rfl, _, rfl, ?_⟩
      by_cases c2 : t < 10
      · refine iteP c2 ⟨_, rfl, pf, _, rfl, .inl (SqL.of (k3 _ _ ef2)), _, _, rfl, rfl, _, rfl, ?_⟩
        by_cases c3 : ((vf.length : Nat) : Int) > 0
        · refine iteP c3 ⟨_, rfl, _, rfl, _, rfl, _, rfl, a, ns, 2, rfl, (s12.trans k3).seq hS, by decide, _, rfl, ?_⟩
          refine ⟨pl, pd, ws, xs, _, _, t, rfl, by omega, hl3, hd3, ndl, by omega, by omega, by omega, by omega, by omega, fun p ms H4 but hp hm lms => ?_⟩
          have s14 : Same H2 H4 := but.same k3 hpl
          refine ⟨_, _, _, _, _, p, ms, rfl, s14, ?_, hm, lms⟩
          rcases hp with z | z
          · rw [z]; exact hpl
          · exact k3.free z
        · exact iteN c3 ⟨_, _, _, _, _, pl, ws, rfl, k3, hpl, hl3, by omega⟩
      · exact iteN c2 (iteF ⟨_, _, _, _, _, pl, ws, rfl, k3, hpl, hl3, by omega⟩)
    · exact iteN c1 (iteF ⟨_, _, _, _, _, pl, ws, rfl, k3, hpl, hl3, by omega⟩)
  rintro σ H4 ⟨o2, o3, o4, o5, o6, p3, ms3, rfl, s4, f3, h3, l3⟩
  refine ⟨fun σ H' => ∃ (o2 o3 o4 o5 o6 : Option V) (c : Int), σ = [some (.ref a), some (.int (n : Int)), some (.ref pf), some (.int c), some (.int t), some (.ref pd), some (.ref p3), o2, o3, o4, o5, o6] ∧ Same H4 H', ?_, ?_⟩
  · refine ⟨_, rfl, rfl, _, rfl, ite2 (fun _ => ?_) (fun _ => ⟨_, _, _, _, _, _, rfl, Same.refl H4⟩)⟩
    have at1 := atI_int (ns := xs) (i := 1) (by decide) (by omega)
    have at0 := atI_int (ns := xs) (i := 0) (by decide) (by omega)
    generalize xs.getD (1 : Int).toNat 0 = d1 at at1
    generalize xs.getD (0 : Int).toNat 0 = d0 at at0
    have e0 := Int.emod_nonneg d0 (show (4 : Int) ≠ 0 by decide)
    have e1 := Int.emod_lt_of_pos d0 (show (0 : Int) < 4 by decide)
    have hd4 := s4 _ _ hd
    refine ⟨_, rfl, _, _, rfl, rfl, _, rfl, _, _, rfl, rfl, _, rfl, pd, _, _, _, rfl, rfl, SqL.of hd4, at1, _, _, rfl, rfl, pm (by decide), _, _, rfl, rfl, sz (n := 4) (by decide), fun pk hpk => ?_⟩
    try dsimp only
    generalize d1 % 7 - 3 = dd
    have hd5 := (upd_ne (o := .lst [.int ((n : Int) + 2 + 1), .int ((n : Int) + 2 - 1), .int dd, .int 999]) (ne_of_none hd4 hpk)).trans hd4
    refine ⟨_, rfl, pd, _, _, _, rfl, rfl, SqL.of hd5, at0, _, _, rfl, rfl, pm (by decide), ?_⟩
    try dsimp only
    generalize d0 % 4 = e at e0 e1 ⊢
    obtain ⟨cc, est⟩ : ∃ cc : Int, atI [V.int ((n : Int) + 2 + 1), .int ((n : Int) + 2 - 1), .int dd, .int 999] e = some (.int cc) := by
      rcases (by omega : e = 0 ∨ e = 1 ∨ e = 2 ∨ e = 3) with rfl | rfl | rfl | rfl
      all_goals exact ⟨_, rfl⟩
    exact ⟨pk, _, _, _, rfl, rfl, SqL.of upd_same, est, _, _, _, _, _, cc, rfl, Same.new (Same.refl H4) hpk _⟩
  rintro σ H5 ⟨p2, p3', p4, p5, p6, c5, rfl, s5⟩
  refine ⟨fun σ H' => ∃ (o2 o3 o4 o5 o6 : Option V) (p : Addr) (c : Int) (ms : List Pair), σ = [some (.ref a), some (.int (n : Int)), some (.ref pf), some (.int c), some (.int t), some (.ref pd), some (.ref p), o2, o3, o4, o5, o6] ∧ Same H2 H' ∧ H2 p = none ∧ PLs H' p ms ∧ ms.length ≤ 41, ?_, ?_⟩
  · refine ⟨_, rfl, rfl, _, rfl, ite2 (fun _ => ?_) (fun _ => ⟨_, _, _, _, _, p3, c5, ms3, rfl, s4.trans s5, f3, h3.same s5, l3⟩)⟩
    refine ⟨_, rfl, a, ns, rfl, ((s12.trans s4).trans s5).seq hS, h63, fun u p c ms H6 s6 f6 hu6 h6 l6 => ?_⟩
    exact ⟨u, _, rfl, SqT.of hu6, rfl, _, _, rfl, _, _, rfl, rfl, _, _, _, _, _, p, c, ms, rfl, (s4.trans s5).trans s6, (s4.trans s5).free f6, h6, by omega⟩
  rintro σ H6 ⟨r2, r3, r4, r5, r6, pm, c, ms, rfl, s6, f6, h6, l6⟩
  refine ⟨_, rfl, _, rfl, pm, c, ms, rfl, h6, by omega, ?_⟩
  intro x dx nx ndx nex
  refine ⟨x, dx, rfl, upd_same, fun fsx Hx1 ex fx => ⟨rfl, ?_⟩⟩
  have sx : Same H6 Hx1 := by rw [ex]; exact ((Same.new (Same.refl H6) ndx _).upd nx _).upd nx _
  have hx : Hx1 x = some (.ins ca.C_Floors dx fsx) := by rw [ex]; exact upd_same
  have h7 := h6.same sx
  obtain ⟨vm, em, lvm, prm⟩ := h7.len
  refine ⟨_, rfl, pm, _, rfl, .inl (SqL.of em), fun ch hch => ?_⟩
  have s7 := sx.trans (Same.new (Same.refl _) hch (.lst vm))
  have hc7 : PLs (upd Hx1 ch (.lst vm)) ch ms := ⟨vm, upd_same, prm.updN hch _⟩
  have hx7 := (Same.new (Same.refl _) hch (.lst vm)) _ _ hx
  have ncm : pm ≠ ch := ne_of_none em hch
  generalize upd Hx1 ch (.lst vm) = H7 at s7 hc7 hx7
  have f1 := fx.no "is_one" (by decide) (by decide)
  have f2 := fx.no "size_of" (by decide) (by decide)
  refine ⟨_, rfl, x, dx, fsx, rfl, hx7, f1, _, rfl, _, rfl, (by show 2 ≤ sizeLine; decide), fun u1 hu1 => ?_⟩
  have j1 := Same.new (Same.refl H7) hu1 (.tup [.int c, .ref ch])
  refine ⟨x, u1, ch, c, ms, rfl, upd_same, hc7.same j1, by omega, fun H8 s8' => ?_⟩
  have s8 := j1.trans s8'
  have hx8 := s8 _ _ hx7
  have hc8 := hc7.same s8
  refine ⟨_, rfl, _, _, _, _, _, rfl, relTy, .bl _, kit_bool_bool, _, rfl, iteF ⟨_, rfl, _, rfl, rfl, _, rfl, iteNS rfl ?_⟩⟩
  have t8 : Same H6 H8 := s7.trans s8
  have hm8 := h6.same t8
  refine ⟨fun σ H' => ∃ (o6 : Option V), σ = [some (.ref a), some (.int (n : Int)), some (.ref pf), some (.int c), some (.int t), some (.ref pd), some (.ref pm), some (.bl (flB c ms)), some (.ref x), some (.ref ch), some (.bl (flB c ms)), o6] ∧ Same H8 H', ?_, ?_⟩
  · cases hB : flB c ms with
    | true => exact ⟨_, rfl, _, rfl, iteF (iteF ⟨_, rfl, Same.refl H8⟩)⟩
    | false => exact ⟨_, rfl, _, rfl, iteT ⟨_, rfl, _, rfl, _, rfl, x, dx, fsx, ch, c, ms, rfl, hx8, fx, hc8, by omega, hB, fun H9 s9 => ⟨_, rfl, iteF ⟨_, rfl, s9⟩⟩⟩⟩
  rintro σ H9 ⟨o6, rfl, s9⟩
  have hx9 := s9 _ _ hx8
  have hc9 := hc8.same s9
  have hm9 := hm8.same s9
  refine ⟨_, rfl, _, _, rfl, rfl, ?_⟩
  refine ⟨fun σ H' => σ = [some (.ref a), some (.int (n : Int)), some (.ref pf), some (.int c), some (.int t), some (.ref pd), some (.ref pm), some (.bl (flB c ms)), some (.ref x), some (.ref ch), some (.bl (flB c ms)), some (.int (c - 2))] ∧ Same H9 H', ?_, ?_⟩
  · refine ⟨_, rfl, _, rfl, ite2 (fun _ => ?_) (fun _ => ⟨rfl, Same.refl H9⟩)⟩
    refine ⟨_, rfl, x, dx, fsx, rfl, hx9, f2, _, rfl, _, rfl, (by show 2 ≤ sizeLine; decide), fun u2 hu2 => ?_⟩
    exact ⟨x, u2, .ref ch, c, rfl, upd_same, rfl, Same.new (Same.refl H9) hu2 _⟩
  rintro σ HA ⟨rfl, sA'⟩
  refine ⟨_, rfl, _, _, _, _, _, rfl, relTy, .int _, kit_int_int, _, rfl, iteF ⟨_, rfl, _, _, _, _, _, rfl, relTy, .int _, kit_int_bool, _, rfl, iteF ⟨_, rfl, _, rfl, _, _, rfl, rfl, rfl, _, rfl, iteNS rfl ?_⟩⟩⟩
  have hcA := hc9.same sA'
  have hmA := hm9.same sA'
  refine ⟨_, rfl, _, rfl, 2, _, by decide, EqD.prs (Ne.symm ncm) hcA hmA, ⟨ch, pm, rfl, rfl, Ne.symm ncm⟩, _, rfl, ?_⟩
  rw [show (decide (ms = ms)) = true from decide_eq_true rfl]
  have s2A : Same H2 HA := ((s6.trans t8).trans s9).trans sA'
  refine iteF ⟨_, rfl, x, dx, fsx, rfl, sA' _ _ hx9, f1, _, rfl, _, _, rfl, rfl, _, rfl, (by show 2 ≤ sizeLine; decide), fun u3 hu3 => ?_⟩
  have j3 := Same.new (Same.refl HA) hu3 (.tup [.int ((n : Int) + 2), .ref pf])
  refine ⟨x, u3, pf, (n : Int) + 2, ws, rfl, upd_same, hf2.same (s2A.trans j3), by omega, fun HB sB' => ⟨true, rfl, _, rfl, ?_⟩⟩
  have sB := j3.trans sB'
  rw [good]
  refine iteNS rfl ?_
  have hxB := sB _ _ (sA' _ _ hx9)
  obtain ⟨uc, euc, luc, pruc⟩ := (hcA.same sB).len
  refine ⟨_, rfl, .inl ⟨rfl, _, SqL.of euc⟩, (by show 2 ≤ sizeLine; decide), fun tz htz => ?_⟩
  have ecC := (upd_ne (o := .tup [.int 0, .int 0]) (ne_of_none euc htz)).trans euc
  have hxC := (upd_ne (o := .tup [.int 0, .int 0]) (ne_of_none hxB htz)).trans hxB
  have prC := (pruc.updN htz (.tup [.int 0, .int 0])).snoc (t := tz) (p := (0, 0)) upd_same
  refine ⟨ch, _, _, rfl, rfl, ecC, sz' (by omega), ?_⟩
  have nxc : x ≠ ch := ne_of hxB euc (by intro z; cases z)
  have hxD := (upd_ne (o := .lst (uc ++ [.ref tz])) nxc).trans hxC
  have hcD : PLs (upd (upd HB tz (.tup [.int 0, .int 0])) ch (.lst (uc ++ [.ref tz]))) ch (ms ++ [(0, 0)]) := ⟨_, upd_same, prC.updL ecC _⟩
  generalize upd (upd HB tz (.tup [.int 0, .int 0])) ch (.lst (uc ++ [.ref tz])) = HD at hxD hcD ⊢
  refine ⟨_, rfl, x, dx, fsx, rfl, hxD, f1, _, rfl, _, rfl, (by show 2 ≤ sizeLine; decide), fun u4 hu4 => ?_⟩
  have j4 := Same.new (Same.refl HD) hu4 (.tup [.int c, .ref ch])
  refine ⟨x, u4, ch, c, ms ++ [(0, 0)], rfl, upd_same, hcD.same j4, (by simp; omega), fun HE sE => ⟨false, rfl, ?_⟩⟩
  have last : ∀ b : Bool, b = true → Q (.bl b) HE := fun b e => by rw [e]; exact q _
  refine last _ ?_
  rw [flB_snoc c ms]
  exact decide_eq_true rfl
end
noncomputable def spL (K : PySem.W.Frag) : Sp := fun vs H Q _ => ∃ (a : Addr) (ns : List Int), vs = [.ref a] ∧ SqL K H a (ns.map V.int) ∧ ns.length ≤ 63 ∧ ∀ H', Q (.bl true) H'
theorem lenAll1 {P : List Value → Prop} (h : ∀ a0 : Value, P [a0]) : ∀ us : List Value, us.length = 1 → P us
  | [a0], _ => h a0
theorem lenAll2 {P : List Value → Prop} (h : ∀ a0 a1 : Value, P [a0, a1]) : ∀ us : List Value, us.length = 2 → P us
  | [a0, a1], _ => h a0 a1
theorem lenAll3 {P : List Value → Prop} (h : ∀ a0 a1 a2 : Value, P [a0, a1, a2]) : ∀ us : List Value, us.length = 3 → P us
  | [a0, a1, a2], _ => h a0 a1 a2
theorem lenAll5 {P : List Value → Prop} (h : ∀ a0 a1 a2 a3 a4 : Value, P [a0, a1, a2, a3, a4]) : ∀ us : List Value, us.length = 5 → P us
  | [a0, a1, a2, a3, a4], _ => h a0 a1 a2 a3 a4
theorem all_mk {l : PySem.W.OpenLaw} {w : World} {K : PySem.W.Frag} {h : Heap} {mg : Str → Option Value} {fa : Addr} (X : K.In h) (G : h.Ns mainGlobals mg) (hfa : mg "law" = some (.ref fa)) {C_Floors : Addr} {C_SplitFamily : Addr} {C_Family : Addr}
    {f1 : Addr} {od1 an1 : Option Addr} {sl1 : Array (Option Value)} {oc1 kV1 dc1 pm1 cd1 ct1 : Value}
    {f2 : Addr} {od2 an2 : Option Addr} {sl2 : Array (Option Value)} {oc2 kV2 dc2 pm2 cd2 ct2 : Value}
    {f3 : Addr} {od3 an3 : Option Addr} {sl3 : Array (Option Value)} {oc3 kV3 dc3 pm3 cd3 ct3 : Value}
    {f4 : Addr} {od4 an4 : Option Addr} {sl4 : Array (Option Value)} {oc4 kV4 dc4 pm4 cd4 ct4 : Value}
    {f5 : Addr} {od5 an5 : Option Addr} {sl5 : Array (Option Value)} {oc5 kV5 dc5 pm5 cd5 ct5 : Value}
    {f6 : Addr} {od6 an6 : Option Addr} {sl6 : Array (Option Value)} {oc6 kV6 dc6 pm6 cd6 ct6 : Value}
    {f7 : Addr} {od7 an7 : Option Addr} {sl7 : Array (Option Value)} {oc7 kV7 dc7 pm7 cd7 ct7 : Value}
    {f8 : Addr} {od8 an8 : Option Addr} {sl8 : Array (Option Value)} {oc8 kV8 dc8 pm8 cd8 ct8 : Value}
    {f9 : Addr} {od9 an9 : Option Addr} {sl9 : Array (Option Value)} {oc9 kV9 dc9 pm9 cd9 ct9 : Value}
    {f10 : Addr} {od10 an10 : Option Addr} {sl10 : Array (Option Value)} {oc10 kV10 dc10 pm10 cd10 ct10 : Value}
    {f11 : Addr} {od11 an11 : Option Addr} {sl11 : Array (Option Value)} {oc11 kV11 dc11 pm11 cd11 ct11 : Value}
    {f12 : Addr} {od12 an12 : Option Addr} {sl12 : Array (Option Value)} {oc12 kV12 dc12 pm12 cd12 ct12 : Value}
    {f13 : Addr} {od13 an13 : Option Addr} {sl13 : Array (Option Value)} {oc13 kV13 dc13 pm13 cd13 ct13 : Value}
    {f14 : Addr} {od14 an14 : Option Addr} {sl14 : Array (Option Value)} {oc14 kV14 dc14 pm14 cd14 ct14 : Value}
    {f15 : Addr} {od15 an15 : Option Addr} {sl15 : Array (Option Value)} {oc15 kV15 dc15 pm15 cd15 ct15 : Value}
    {f16 : Addr} {od16 an16 : Option Addr} {sl16 : Array (Option Value)} {oc16 kV16 dc16 pm16 cd16 ct16 : Value}
    {f17 : Addr} {od17 an17 : Option Addr} {sl17 : Array (Option Value)} {oc17 kV17 dc17 pm17 cd17 ct17 : Value}
    {f18 : Addr} {od18 an18 : Option Addr} {sl18 : Array (Option Value)} {oc18 kV18 dc18 pm18 cd18 ct18 : Value}
    {f19 : Addr} {od19 an19 : Option Addr} {sl19 : Array (Option Value)} {oc19 kV19 dc19 pm19 cd19 ct19 : Value}
    {f20 : Addr} {od20 an20 : Option Addr} {sl20 : Array (Option Value)} {oc20 kV20 dc20 pm20 cd20 ct20 : Value}
    {f21 : Addr} {od21 an21 : Option Addr} {sl21 : Array (Option Value)} {oc21 kV21 dc21 pm21 cd21 ct21 : Value}
    (nc_Floors : PySem.W.nsIn K mainGlobals "Floors" = some (some (.ref C_Floors)))
    (nc_SplitFamily : PySem.W.nsIn K mainGlobals "SplitFamily" = some (some (.ref C_SplitFamily)))
    (nc_Family : PySem.W.nsIn K mainGlobals "Family" = some (some (.ref C_Family)))
    (a_Floors_is_one : PySem.W.findIn K (.ref C_Floors) "is_one" = some (some (.ref f15)))
    (a_Floors_size_of : PySem.W.findIn K (.ref C_Floors) "size_of" = some (some (.ref f20)))
    (a_Floors_number_of : PySem.W.findIn K (.ref C_Floors) "number_of" = some (some (.ref f17)))
    (a_Floors_next_of : PySem.W.findIn K (.ref C_Floors) "next_of" = some (some (.ref f18)))
    (a_Floors_refuse_other : PySem.W.findIn K (.ref C_Floors) "refuse_other" = some (some (.ref f16)))
    (ai_Floors : PySem.W.findIn K (.ref C_Floors) "__init__" = some (some (.ref f12)))
    (ch_SplitFamily___init___Floors : PySem.W.findCls K (.ref C_SplitFamily) (.type "type") "__init__" = some (.val (.ref f11)))
    (cg_SplitFamily___init___Floors : PySem.W.specialIn K (.ref C_SplitFamily) "__getattribute__" = some (some (.builtin "type.__getattribute__")))
    (cr_SplitFamily___init___Floors : PySem.W.readsIn K C_SplitFamily (.type "type") = true)
    (ch_Family___init___Floors : PySem.W.findCls K (.ref C_Family) (.type "type") "__init__" = some (.val (.ref f10)))
    (cg_Family___init___Floors : PySem.W.specialIn K (.ref C_Family) "__getattribute__" = some (some (.builtin "type.__getattribute__")))
    (cr_Family___init___Floors : PySem.W.readsIn K C_Family (.type "type") = true)
    (a1 : PySem.W.nsIn K mainGlobals "_law_cell_at" = some (some (.ref f1)))
    (l1 : K.lookup f1 = some ⟨oc1, od1, .func (PySem.W.fnOf "_law_cell_at" "_law_cell_at" (defArgs s__law_cell_at) (defBody s__law_cell_at) (defScope s__law_cell_at) .none kV1 dc1 pm1 an1 cd1 ct1), sl1⟩)
    (c1 : PySem.W.codeIn K cd1 "_law_cell_at" = true)
    (k1 : PySem.W.keepIn K (.ref f1) = true)
    (a2 : PySem.W.nsIn K mainGlobals "_law_draws" = some (some (.ref f2)))
    (l2 : K.lookup f2 = some ⟨oc2, od2, .func (PySem.W.fnOf "_law_draws" "_law_draws" (defArgs s__law_draws) (defBody s__law_draws) (defScope s__law_draws) .none kV2 dc2 pm2 an2 cd2 ct2), sl2⟩)
    (c2 : PySem.W.codeIn K cd2 "_law_draws" = true)
    (k2 : PySem.W.keepIn K (.ref f2) = true)
    (a3 : PySem.W.nsIn K mainGlobals "_law_cuts" = some (some (.ref f3)))
    (l3 : K.lookup f3 = some ⟨oc3, od3, .func (PySem.W.fnOf "_law_cuts" "_law_cuts" (defArgs s__law_cuts) (defBody s__law_cuts) (defScope s__law_cuts) .none kV3 dc3 pm3 an3 cd3 ct3), sl3⟩)
    (c3 : PySem.W.codeIn K cd3 "_law_cuts" = true)
    (k3 : PySem.W.keepIn K (.ref f3) = true)
    (a4 : PySem.W.nsIn K mainGlobals "_law_number" = some (some (.ref f4)))
    (l4 : K.lookup f4 = some ⟨oc4, od4, .func (PySem.W.fnOf "_law_number" "_law_number" (defArgs s__law_number) (defBody s__law_number) (defScope s__law_number) .none kV4 dc4 pm4 an4 cd4 ct4), sl4⟩)
    (c4 : PySem.W.codeIn K cd4 "_law_number" = true)
    (k4 : PySem.W.keepIn K (.ref f4) = true)
    (a5 : PySem.W.nsIn K mainGlobals "_law_pair" = some (some (.ref f5)))
    (l5 : K.lookup f5 = some ⟨oc5, od5, .func (PySem.W.fnOf "_law_pair" "_law_pair" (defArgs s__law_pair) (defBody s__law_pair) (defScope s__law_pair) .none kV5 dc5 pm5 an5 cd5 ct5), sl5⟩)
    (c5 : PySem.W.codeIn K cd5 "_law_pair" = true)
    (k5 : PySem.W.keepIn K (.ref f5) = true)
    (a6 : PySem.W.nsIn K mainGlobals "_law_changed" = some (some (.ref f6)))
    (l6 : K.lookup f6 = some ⟨oc6, od6, .func (PySem.W.fnOf "_law_changed" "_law_changed" (defArgs s__law_changed) (defBody s__law_changed) (defScope s__law_changed) .none kV6 dc6 pm6 an6 cd6 ct6), sl6⟩)
    (c6 : PySem.W.codeIn K cd6 "_law_changed" = true)
    (k6 : PySem.W.keepIn K (.ref f6) = true)
    (a7 : PySem.W.nsIn K mainGlobals "_law_by_chance" = some (some (.ref f7)))
    (l7 : K.lookup f7 = some ⟨oc7, od7, .func (PySem.W.fnOf "_law_by_chance" "_law_by_chance" (defArgs s__law_by_chance) (defBody s__law_by_chance) (defScope s__law_by_chance) .none kV7 dc7 pm7 an7 cd7 ct7), sl7⟩)
    (c7 : PySem.W.codeIn K cd7 "_law_by_chance" = true)
    (k7 : PySem.W.keepIn K (.ref f7) = true)
    (a8 : PySem.W.nsIn K mainGlobals "_law_crossing" = some (some (.ref f8)))
    (l8 : K.lookup f8 = some ⟨oc8, od8, .func (PySem.W.fnOf "_law_crossing" "_law_crossing" (defArgs s__law_crossing) (defBody s__law_crossing) (defScope s__law_crossing) .none kV8 dc8 pm8 an8 cd8 ct8), sl8⟩)
    (c8 : PySem.W.codeIn K cd8 "_law_crossing" = true)
    (k8 : PySem.W.keepIn K (.ref f8) = true)
    (a9 : PySem.W.nsIn K mainGlobals "_law_stand" = some (some (.ref f9)))
    (l9 : K.lookup f9 = some ⟨oc9, od9, .func (PySem.W.fnOf "_law_stand" "_law_stand" (defArgs s__law_stand) (defBody s__law_stand) (defScope s__law_stand) .none kV9 dc9 pm9 an9 cd9 ct9), sl9⟩)
    (c9 : PySem.W.codeIn K cd9 "_law_stand" = true)
    (k9 : PySem.W.keepIn K (.ref f9) = true)
    (l10 : K.lookup f10 = some ⟨oc10, od10, .func (PySem.W.fnOf "__init__" "Family.__init__" (defArgs s_Floors__Family___init__) (defBody s_Floors__Family___init__) (defScope s_Floors__Family___init__) .none kV10 dc10 pm10 an10 cd10 ct10), sl10⟩)
    (c10 : PySem.W.codeIn K cd10 "Family.__init__" = true)
    (k10 : PySem.W.keepIn K (.ref f10) = true)
    (i10 : PySem.W.isFn K (.ref f10) = true)
    (l11 : K.lookup f11 = some ⟨oc11, od11, .func (PySem.W.fnOf "__init__" "SplitFamily.__init__" (defArgs s_Floors__SplitFamily___init__) (defBody s_Floors__SplitFamily___init__) (defScope s_Floors__SplitFamily___init__) .none kV11 dc11 pm11 an11 cd11 ct11), sl11⟩)
    (c11 : PySem.W.codeIn K cd11 "SplitFamily.__init__" = true)
    (k11 : PySem.W.keepIn K (.ref f11) = true)
    (i11 : PySem.W.isFn K (.ref f11) = true)
    (l12 : K.lookup f12 = some ⟨oc12, od12, .func (PySem.W.fnOf "__init__" "Floors.__init__" (defArgs s_Floors____init__) (defBody s_Floors____init__) (defScope s_Floors____init__) .none kV12 dc12 pm12 an12 cd12 ct12), sl12⟩)
    (c12 : PySem.W.codeIn K cd12 "Floors.__init__" = true)
    (k12 : PySem.W.keepIn K (.ref f12) = true)
    (i12 : PySem.W.isFn K (.ref f12) = true)
    (a13 : PySem.W.nsIn K mainGlobals "any_cross" = some (some (.ref f13)))
    (l13 : K.lookup f13 = some ⟨oc13, od13, .func (PySem.W.fnOf "any_cross" "any_cross" (defArgs s_any_cross) (defBody s_any_cross) (defScope s_any_cross) .none kV13 dc13 pm13 an13 cd13 ct13), sl13⟩)
    (c13 : PySem.W.codeIn K cd13 "any_cross" = true)
    (k13 : PySem.W.keepIn K (.ref f13) = true)
    (a14 : PySem.W.nsIn K mainGlobals "may_be_cut" = some (some (.ref f14)))
    (l14 : K.lookup f14 = some ⟨oc14, od14, .func (PySem.W.fnOf "may_be_cut" "may_be_cut" (defArgs s_may_be_cut) (defBody s_may_be_cut) (defScope s_may_be_cut) .none kV14 dc14 pm14 an14 cd14 ct14), sl14⟩)
    (c14 : PySem.W.codeIn K cd14 "may_be_cut" = true)
    (k14 : PySem.W.keepIn K (.ref f14) = true)
    (l15 : K.lookup f15 = some ⟨oc15, od15, .func (PySem.W.fnOf "is_one" "Floors.is_one" (defArgs s_Floors__is_one) (defBody s_Floors__is_one) (defScope s_Floors__is_one) .none kV15 dc15 pm15 an15 cd15 ct15), sl15⟩)
    (c15 : PySem.W.codeIn K cd15 "Floors.is_one" = true)
    (k15 : PySem.W.keepIn K (.ref f15) = true)
    (i15 : PySem.W.isFn K (.ref f15) = true)
    (l16 : K.lookup f16 = some ⟨oc16, od16, .func (PySem.W.fnOf "refuse_other" "Family.refuse_other" (defArgs s_Floors__Family_refuse_other) (defBody s_Floors__Family_refuse_other) (defScope s_Floors__Family_refuse_other) .none kV16 dc16 pm16 an16 cd16 ct16), sl16⟩)
    (c16 : PySem.W.codeIn K cd16 "Family.refuse_other" = true)
    (k16 : PySem.W.keepIn K (.ref f16) = true)
    (i16 : PySem.W.isFn K (.ref f16) = true)
    (l17 : K.lookup f17 = some ⟨oc17, od17, .func (PySem.W.fnOf "number_of" "Family.number_of" (defArgs s_Floors__Family_number_of) (defBody s_Floors__Family_number_of) (defScope s_Floors__Family_number_of) .none kV17 dc17 pm17 an17 cd17 ct17), sl17⟩)
    (c17 : PySem.W.codeIn K cd17 "Family.number_of" = true)
    (k17 : PySem.W.keepIn K (.ref f17) = true)
    (i17 : PySem.W.isFn K (.ref f17) = true)
    (l18 : K.lookup f18 = some ⟨oc18, od18, .func (PySem.W.fnOf "next_of" "Family.next_of" (defArgs s_Floors__Family_next_of) (defBody s_Floors__Family_next_of) (defScope s_Floors__Family_next_of) .none kV18 dc18 pm18 an18 cd18 ct18), sl18⟩)
    (c18 : PySem.W.codeIn K cd18 "Family.next_of" = true)
    (k18 : PySem.W.keepIn K (.ref f18) = true)
    (i18 : PySem.W.isFn K (.ref f18) = true)
    (a19 : PySem.W.nsIn K mainGlobals "_law_refused" = some (some (.ref f19)))
    (l19 : K.lookup f19 = some ⟨oc19, od19, .func (PySem.W.fnOf "_law_refused" "_law_refused" (defArgs s__law_refused) (defBody s__law_refused) (defScope s__law_refused) .none kV19 dc19 pm19 an19 cd19 ct19), sl19⟩)
    (c19 : PySem.W.codeIn K cd19 "_law_refused" = true)
    (k19 : PySem.W.keepIn K (.ref f19) = true)
    (l20 : K.lookup f20 = some ⟨oc20, od20, .func (PySem.W.fnOf "size_of" "Floors.size_of" (defArgs s_Floors__size_of) (defBody s_Floors__size_of) (defScope s_Floors__size_of) .none kV20 dc20 pm20 an20 cd20 ct20), sl20⟩)
    (c20 : PySem.W.codeIn K cd20 "Floors.size_of" = true)
    (k20 : PySem.W.keepIn K (.ref f20) = true)
    (i20 : PySem.W.isFn K (.ref f20) = true)
    (a21 : PySem.W.nsIn K mainGlobals "law" = some (some (.ref f21)))
    (l21 : K.lookup f21 = some ⟨oc21, od21, .func (PySem.W.fnOf "law" "law" (defArgs s_law) (defBody s_law) (defScope s_law) .none kV21 dc21 pm21 an21 cd21 ct21), sl21⟩)
    (c21 : PySem.W.codeIn K cd21 "law" = true)
    (k21 : PySem.W.keepIn K (.ref f21) = true)
    (pg_Floors : PySem.W.plainGet K C_Floors Str.empty = true)
    (hd_Floors : PySem.W.hasDictIn K C_Floors = true)
    (po_Floors : PySem.W.plainOver K C_Floors = true)
    (sa_Floors : PySem.W.findIn K (.ref C_Floors) "__setattr__" = some (some (.builtin "object.__setattr__")))
    (mk_Floors : PySem.W.makesIn K C_Floors = true)
    (kc_Floors : PySem.W.keepIn K (.ref C_Floors) = true)
    (na_Floors_word : PySem.W.findIn K (.ref C_Floors) "word" = some none)
    (na_Floors_least : PySem.W.findIn K (.ref C_Floors) "least" = some none)
    (z_len : PySem.W.nsIn K mainGlobals "len" = some none)
    (z_range : PySem.W.nsIn K mainGlobals "range" = some none)
    (z_sorted : PySem.W.nsIn K mainGlobals "sorted" = some none)
    (z_max : PySem.W.nsIn K mainGlobals "max" = some none)
    (z_min : PySem.W.nsIn K mainGlobals "min" = some none)
    (z_set : PySem.W.nsIn K mainGlobals "set" = some none)
    (z_all : PySem.W.nsIn K mainGlobals "all" = some none)
    (z_list : PySem.W.nsIn K mainGlobals "list" = some none)
    (z_isinstance : PySem.W.nsIn K mainGlobals "isinstance" = some none)
    (z_bool : PySem.W.nsIn K mainGlobals "bool" = some none)
    (z_int : PySem.W.nsIn K mainGlobals "int" = some none)
    {c_thing : Addr}
    (n_thing : PySem.W.nsIn K mainGlobals "NoThing" = some (some (.ref c_thing)))
    (t_err : errTab1 K ⟨c_thing⟩ = true) :
    ∃ fd : FuncData, (∀ (s : Shared) (v : Value), BindsTo s fd ⟨[v], []⟩ [("_law_script", v)]) ∧ ∀ base : Heap, K.In base → base.Ns mainGlobals mg → FnOk l.prog w K mg base CX0 7 fa fd ["_law_script"] (spL K) := by
  have e := hfa.symm.trans (PySem.W.mg_of X G a21)
  cases e
  have EO : Er1Ok K mg ⟨c_thing⟩ := err1Ok t_err (PySem.W.mg_of X G n_thing)
  have CA : ClOk K mg ⟨C_Floors, C_SplitFamily, C_Family, f10, f11, f12, f15, f16, f17, f18, f20⟩ := ⟨PySem.W.mg_of X G nc_Floors, PySem.W.mg_of X G nc_SplitFamily, PySem.W.mg_of X G nc_Family, ⟨pg_Floors, hd_Floors, po_Floors, sa_Floors⟩, ⟨a_Floors_is_one, i15, k15⟩, ⟨a_Floors_size_of, i20, k20⟩, ⟨a_Floors_number_of, i17, k17⟩, ⟨a_Floors_next_of, i18, k18⟩, ⟨a_Floors_refuse_other, i16, k16⟩, ⟨mk_Floors, ai_Floors, i12, kc_Floors⟩, ⟨cg_SplitFamily___init___Floors, cr_SplitFamily___init___Floors, ch_SplitFamily___init___Floors, k11⟩, ⟨cg_Family___init___Floors, cr_Family___init___Floors, ch_Family___init___Floors, k10⟩, na_Floors_word, na_Floors_least⟩
  have F1 := fun_mk (st := s__law_cell_at) l1 c1 k1
  have b1 := F1.binds (ps := ["_law_script", "_law_k"]) fun _ _ _ _ _ _ => lenAll2 (fun _ _ => rfl)
  have F2 := fun_mk (st := s__law_draws) l2 c2 k2
  have b2 := F2.binds (ps := ["_law_script", "_law_turn", "_law_many"]) fun _ _ _ _ _ _ => lenAll3 (fun _ _ _ => rfl)
  have F3 := fun_mk (st := s__law_cuts) l3 c3 k3
  have b3 := F3.binds (ps := ["_law_script", "_law_size", "_law_turn"]) fun _ _ _ _ _ _ => lenAll3 (fun _ _ _ => rfl)
  have F4 := fun_mk (st := s__law_number) l4 c4 k4
  have b4 := F4.binds (ps := ["_law_draw", "_law_cell", "_law_top"]) fun _ _ _ _ _ _ => lenAll3 (fun _ _ _ => rfl)
  have F5 := fun_mk (st := s__law_pair) l5 c5 k5
  have b5 := F5.binds (ps := ["_law_draw", "_law_corners", "_law_other"]) fun _ _ _ _ _ _ => lenAll3 (fun _ _ _ => rfl)
  have F6 := fun_mk (st := s__law_changed) l6 c6 k6
  have b6 := F6.binds (ps := ["_law_cuts_here", "_law_corners", "_law_draws_here", "_law_far", "_law_turn"]) fun _ _ _ _ _ _ => lenAll5 (fun _ _ _ _ _ => rfl)
  have F7 := fun_mk (st := s__law_by_chance) l7 c7 k7
  have b7 := F7.binds (ps := ["_law_script"]) fun _ _ _ _ _ _ => lenAll1 (fun _ => rfl)
  have F8 := fun_mk (st := s__law_crossing) l8 c8 k8
  have b8 := F8.binds (ps := ["_law_cuts_here"]) fun _ _ _ _ _ _ => lenAll1 (fun _ => rfl)
  have F9 := fun_mk (st := s__law_stand) l9 c9 k9
  have b9 := F9.binds (ps := ["_law_corners", "_law_cuts_here"]) fun _ _ _ _ _ _ => lenAll2 (fun _ _ => rfl)
  have F10 := fun_mk (st := s_Floors__Family___init__) l10 c10 k10
  have b10 := F10.binds (ps := ["self", "word", "least"]) fun _ _ _ _ _ _ => lenAll3 (fun _ _ _ => rfl)
  have F11 := fun_mk (st := s_Floors__SplitFamily___init__) l11 c11 k11
  have b11 := F11.binds (ps := ["self", "word"]) fun _ _ _ _ _ _ => lenAll2 (fun _ _ => rfl)
  have F12 := fun_mk (st := s_Floors____init__) l12 c12 k12
  have b12 := F12.binds (ps := ["self"]) fun _ _ _ _ _ _ => lenAll1 (fun _ => rfl)
  have F13 := fun_mk (st := s_any_cross) l13 c13 k13
  have b13 := F13.binds (ps := ["pairs"]) fun _ _ _ _ _ _ => lenAll1 (fun _ => rfl)
  have F14 := fun_mk (st := s_may_be_cut) l14 c14 k14
  have b14 := F14.binds (ps := ["corners", "a", "b"]) fun _ _ _ _ _ _ => lenAll3 (fun _ _ _ => rfl)
  have F15 := fun_mk (st := s_Floors__is_one) l15 c15 k15
  have b15 := F15.binds (ps := ["self", "thing"]) fun _ _ _ _ _ _ => lenAll2 (fun _ _ => rfl)
  have F16 := fun_mk (st := s_Floors__Family_refuse_other) l16 c16 k16
  have b16 := F16.binds (ps := ["self", "thing"]) fun _ _ _ _ _ _ => lenAll2 (fun _ _ => rfl)
  have F17 := fun_mk (st := s_Floors__Family_number_of) l17 c17 k17
  have b17 := F17.binds (ps := ["self", "thing"]) fun _ _ _ _ _ _ => lenAll2 (fun _ _ => rfl)
  have F18 := fun_mk (st := s_Floors__Family_next_of) l18 c18 k18
  have b18 := F18.binds (ps := ["self", "thing"]) fun _ _ _ _ _ _ => lenAll2 (fun _ _ => rfl)
  have F19 := fun_mk (st := s__law_refused) l19 c19 k19
  have b19 := F19.binds (ps := ["_law_kin", "_law_corners", "_law_cuts_here"]) fun _ _ _ _ _ _ => lenAll3 (fun _ _ _ => rfl)
  have F20 := fun_mk (st := s_Floors__size_of) l20 c20 k20
  have b20 := F20.binds (ps := ["self", "thing"]) fun _ _ _ _ _ _ => lenAll2 (fun _ _ => rfl)
  have F21 := fun_mk (st := s_law) l21 c21 k21
  have m_len := PySem.W.mg_none_of X G z_len
  have m_range := PySem.W.mg_none_of X G z_range
  have m_sorted := PySem.W.mg_none_of X G z_sorted
  have m_max := PySem.W.mg_none_of X G z_max
  have m_min := PySem.W.mg_none_of X G z_min
  have m_set := PySem.W.mg_none_of X G z_set
  have m_all := PySem.W.mg_none_of X G z_all
  have m_list := PySem.W.mg_none_of X G z_list
  have m_isinstance := PySem.W.mg_none_of X G z_isinstance
  have m_bool := PySem.W.mg_none_of X G z_bool
  have m_int := PySem.W.mg_none_of X G z_int
  refine ⟨PySem.W.fnOf "law" "law" (defArgs s_law) (defBody s_law) (defScope s_law) .none kV21 dc21 pm21 an21 cd21 ct21, fun s v => .of_eq rfl, fun base _ _ => ?_⟩
  have d__law_cell_at : Def l.prog w K mg base "_law_cell_at" ["_law_script", "_law_k"] 1 (sp__law_cell_at K _) f1 _ := ⟨(ok__law_cell_at (P := l.prog) (w := w) (base := base) EO CA F1 m_len).up, b1, k1, PySem.W.mg_of X G a1⟩
  have d__law_draws : Def l.prog w K mg base "_law_draws" ["_law_script", "_law_turn", "_law_many"] 1 (sp__law_draws K _) f2 _ := ⟨(ok__law_draws (P := l.prog) (w := w) (base := base) EO CA F2 m_range m_len).up, b2, k2, PySem.W.mg_of X G a2⟩
  have d__law_cuts : Def l.prog w K mg base "_law_cuts" ["_law_script", "_law_size", "_law_turn"] 2 (sp__law_cuts K _) f3 _ := ⟨(ok__law_cuts (P := l.prog) (w := w) (base := base) EO CA F3 d__law_draws m_len m_sorted).up, b3, k3, PySem.W.mg_of X G a3⟩
  have d__law_number : Def l.prog w K mg base "_law_number" ["_law_draw", "_law_cell", "_law_top"] 1 (sp__law_number K _) f4 _ := ⟨(ok__law_number (P := l.prog) (w := w) (base := base) EO CA F4).up, b4, k4, PySem.W.mg_of X G a4⟩
  have d__law_pair : Def l.prog w K mg base "_law_pair" ["_law_draw", "_law_corners", "_law_other"] 1 (sp__law_pair K _) f5 _ := ⟨(ok__law_pair (P := l.prog) (w := w) (base := base) EO CA F5 m_max m_min).up, b5, k5, PySem.W.mg_of X G a5⟩
  have d__law_changed : Def l.prog w K mg base "_law_changed" ["_law_cuts_here", "_law_corners", "_law_draws_here", "_law_far", "_law_turn"] 2 (sp__law_changed K _) f6 _ := ⟨(ok__law_changed (P := l.prog) (w := w) (base := base) EO CA F6 d__law_number d__law_pair m_len m_sorted).up, b6, k6, PySem.W.mg_of X G a6⟩
  have d__law_by_chance : Def l.prog w K mg base "_law_by_chance" ["_law_script"] 2 (sp__law_by_chance K _) f7 _ := ⟨(ok__law_by_chance (P := l.prog) (w := w) (base := base) EO CA F7 d__law_draws m_range m_max m_sorted).up, b7, k7, PySem.W.mg_of X G a7⟩
  have d__law_crossing : Def l.prog w K mg base "_law_crossing" ["_law_cuts_here"] 1 (sp__law_crossing K _) f8 _ := ⟨(ok__law_crossing (P := l.prog) (w := w) (base := base) EO CA F8).up, b8, k8, PySem.W.mg_of X G a8⟩
  have d__law_stand : Def l.prog w K mg base "_law_stand" ["_law_corners", "_law_cuts_here"] 2 (sp__law_stand K _) f9 _ := ⟨(ok__law_stand (P := l.prog) (w := w) (base := base) EO CA F9 d__law_crossing m_len m_max m_range).up, b9, k9, PySem.W.mg_of X G a9⟩
  have d_Floors__Family___init__ : MDef l.prog w K mg base ["self", "word", "least"] 1 (sp_Floors__Family___init__ K _) f10 _ := ⟨(ok_Floors__Family___init__ (P := l.prog) (w := w) (base := base) EO CA F10).up, b10⟩
  have d_Floors__SplitFamily___init__ : MDef l.prog w K mg base ["self", "word"] 3 (sp_Floors__SplitFamily___init__ K _) f11 _ := ⟨(ok_Floors__SplitFamily___init__ (P := l.prog) (w := w) (base := base) EO CA F11 d_Floors__Family___init__).up, b11⟩
  have d_Floors____init__ : MDef l.prog w K mg base ["self"] 5 (sp_Floors____init__ K _) f12 _ := ⟨(ok_Floors____init__ (P := l.prog) (w := w) (base := base) EO CA F12 d_Floors__SplitFamily___init__).up, b12⟩
  have d_any_cross : Def l.prog w K mg base "any_cross" ["pairs"] 1 (sp_any_cross K _) f13 _ := ⟨(ok_any_cross (P := l.prog) (w := w) (base := base) EO CA F13).up, b13, k13, PySem.W.mg_of X G a13⟩
  have d_may_be_cut : Def l.prog w K mg base "may_be_cut" ["corners", "a", "b"] 1 (sp_may_be_cut K _) f14 _ := ⟨(ok_may_be_cut (P := l.prog) (w := w) (base := base) EO CA F14).up, b14, k14, PySem.W.mg_of X G a14⟩
  have d_Floors__is_one : MDef l.prog w K mg base ["self", "thing"] 2 (sp_Floors__is_one K _) f15 _ := ⟨(ok_Floors__is_one (P := l.prog) (w := w) (base := base) EO CA F15 d_any_cross d_may_be_cut m_len m_max m_sorted m_set m_all).up, b15⟩
  have d_Floors__Family_refuse_other : MDef l.prog w K mg base ["self", "thing"] 3 (sp_Floors__Family_refuse_other K _ _) f16 _ := ⟨(ok_Floors__Family_refuse_other (P := l.prog) (w := w) (base := base) EO CA F16 d_Floors__is_one), b16⟩
  have d_Floors__Family_number_of : MDef l.prog w K mg base ["self", "thing"] 4 (sp_Floors__Family_number_of K _ _) f17 _ := ⟨(ok_Floors__Family_number_of (P := l.prog) (w := w) (base := base) EO CA F17 d_Floors__Family_refuse_other), b17⟩
  have d_Floors__Family_next_of : MDef l.prog w K mg base ["self", "thing"] 5 (sp_Floors__Family_next_of K _ _) f18 _ := ⟨(ok_Floors__Family_next_of (P := l.prog) (w := w) (base := base) EO CA F18 d_Floors__Family_number_of), b18⟩
  have d__law_refused : Def l.prog w K mg base "_law_refused" ["_law_kin", "_law_corners", "_law_cuts_here"] 6 (sp__law_refused K _ _) f19 _ := ⟨(ok__law_refused (P := l.prog) (w := w) (base := base) EO CA F19 d_Floors__Family_number_of d_Floors__Family_next_of).up, b19, k19, PySem.W.mg_of X G a19⟩
  have d_Floors__size_of : MDef l.prog w K mg base ["self", "thing"] 1 (sp_Floors__size_of K _) f20 _ := ⟨(ok_Floors__size_of (P := l.prog) (w := w) (base := base) EO CA F20).up, b20⟩
  exact ok_law (P := l.prog) (w := w) (base := base) EO CA F21 d__law_cell_at d__law_cuts d__law_draws d__law_changed d__law_by_chance d__law_stand d_Floors____init__ d_Floors__is_one d__law_refused d_Floors__size_of m_list m_len m_isinstance m_bool m_int
theorem walk {l : PySem.W.OpenLaw} {q : Program} {loose : List Str} {XP : (Str → Option Value) → Heap → Prop} {YP : World → Heap → Prop} {d : DefRec} {K : Params → PySem.W.Frag} (hn : l.most = some 63) (hdf : d.params.defaults = [])
    (hY : ∀ (w : World) (h : Heap), YP w h → (K w.params).In h)
    (F : ∀ (w : World) (mg : Str → Option Value) (fa : Addr) (h : Heap), (K w.params).In h → h.Ns mainGlobals mg → mg d.name = some (.ref fa) →
      ∃ fd : FuncData, (∀ (s : Shared) (u : Value), BindsTo s fd ⟨[u], []⟩ [("_law_script", u)]) ∧ ∀ base : Heap, (K w.params).In base → base.Ns mainGlobals mg → FnOk l.prog w (K w.params) mg base CX0 7 fa fd ["_law_script"] (spL (K w.params))) :
    PySem.W.WalkO q loose XP YP l.row.toRowW d [] (fun f vs => PySem.call f vs) :=
  L2.walk_of (n := 63) (k := 7) (x := "_law_script") (CX := fun _ => CX0) (sp := fun w => spL (K w.params)) hn (by decide) hdf ⟨rfl, by decide, by decide⟩ hY F (fun _ _ a ns hl _ hS => ⟨a, ns, rfl, hS, hl, fun _ => rfl⟩) fun _ _ _ _ _ z => z
end Ck
open L2
namespace Ck
open PySem PySem.W PySem.Calls PyProof.Rows
noncomputable def hB : List Stmt := behindTheImports PySem.Challenge.pw_countkin_k18_floors_looked_at
noncomputable def hE : Env := { scope := PySem.Challenge.pw_countkin_k18_floors_looked_at.main.scope, locals := mainNs, globals := mainNs, cells := [], code := (.ref 13), frame := some 14 }
noncomputable def hC : Code := .body hB hE
noncomputable def hTree (P : Params) : BT := (.node (boot_o_0 P) (.node (boot_o_1 P) (.node (boot_o_3 P) (.node (boot_o_7 P) .nil .nil) (.node ⟨(.type "tuple"), none, (.seq #[] 0), #[]⟩ .nil .nil)) (.node (boot_o_5 P) (.node (boot_o_9 P) .nil .nil) (.node ⟨(.type "code"), none, (.fields #[(.str "<module>" 182), (.str "<module>" 183), (.str "/claim/cut.py" 184), (.int 1 0), (.int 0 0), (.int 0 0), (.int 0 0), (.int 0 0), (.ref 11), (.bool false), (.int 181 0), (.ref 12), .none, .none, .none, .none, (.int 185 0), (.int 1 0), (.str "/claim/cut.py" 186)]), #[]⟩ .nil .nil))) (.node (boot_o_2 P) (.node (boot_o_4 P) (.node (boot_o_8 P) .nil .nil) (.node ⟨.none, none, (.fields #[]), #[]⟩ .nil .nil)) (.node (boot_o_6 P) (.node (boot_o_10 P) .nil .nil) (.node ⟨(.type "frame"), none, .plain, #[(some (.ref 13)), (some (.ref 3)), (some (.ref 3)), none, (some (.str "__main__" 164)), none, (some (.ref 0))]⟩ .nil .nil))))
noncomputable def hS (w : World) (os : OsState) : SharedT := ⟨hTree w.params, 15, ({} : Life), Array.mk [], ⟨0, 0, 0, 0⟩, 187, os⟩
noncomputable def hQ : Program := { PySem.Challenge.pw_countkin_k18_floors_looked_at with main := { PySem.Challenge.pw_countkin_k18_floors_looked_at.main with body := [top 28] } }
noncomputable def hL : List Str := (Str.ofString "_wall" :: Str.ofString "pairs_raised_by" :: Str.ofString "any_cross" :: Str.ofString "shares" :: Str.ofString "by_rule" :: Str.ofString "KinError" :: Str.ofString "NoThing" :: Str.ofString "Family" :: Str.ofString "SplitFamily" :: Str.ofString "Floors" :: Str.ofString "may_be_cut" :: Str.ofString "third_corner" :: Str.ofString "_law_cell_at" :: Str.ofString "_law_draws" :: Str.ofString "_law_number" :: Str.ofString "_law_cuts" :: Str.ofString "_law_pair" :: Str.ofString "_law_by_chance" :: Str.ofString "_law_changed" :: Str.ofString "_law_crossing" :: Str.ofString "_law_stand" :: Str.ofString "_law_refused" :: [])
noncomputable def hK : Params → Frag := fun P => (nat_lit 2, ⟨.none, none, (.dict #[] 0), #[]⟩) :: (nat_lit 3, ⟨(.type "dict"), none, (.dict #[⟨PyData.keyHash P "__name__", .str "__name__" 165, (.str "law_countkin_k18_floors_looked_at" 556)⟩, ⟨PyData.keyHash P "__doc__", .str "__doc__" 166, .none⟩, ⟨PyData.keyHash P "__package__", .str "__package__" 167, .none⟩, ⟨PyData.keyHash P "__loader__", .str "__loader__" 168, (.builtin "__main__.__loader__#opaque")⟩, ⟨PyData.keyHash P "__spec__", .str "__spec__" 169, .none⟩, ⟨PyData.keyHash P "__annotations__", .str "__annotations__" 170, (.ref 6)⟩, ⟨PyData.keyHash P "__builtins__", .str "__builtins__" 171, (.ref 4)⟩, ⟨PyData.keyHash P "__file__", .str "__file__" 173, (.str "/claim/cut.py" 172)⟩, ⟨PyData.keyHash P "__cached__", .str "__cached__" 174, .none⟩, ⟨PyData.keyHash P "_wall", .str "_wall" 193, (.ref 21)⟩, ⟨PyData.keyHash P "pairs_raised_by", .str "pairs_raised_by" 201, (.ref 26)⟩, ⟨PyData.keyHash P "any_cross", .str "any_cross" 212, (.ref 33)⟩, ⟨PyData.keyHash P "shares", .str "shares" 220, (.ref 38)⟩, ⟨PyData.keyHash P "by_rule", .str "by_rule" 229, (.ref 45)⟩, ⟨PyData.keyHash P "KinError", .str "KinError" 249, (.ref 55)⟩, ⟨PyData.keyHash P "NoThing", .str "NoThing" 265, (.ref 68)⟩, ⟨PyData.keyHash P "Family", .str "Family" 382, (.ref 157)⟩, ⟨PyData.keyHash P "SplitFamily", .str "SplitFamily" 476, (.ref 232)⟩, ⟨PyData.keyHash P "Floors", .str "Floors" 540, (.ref 282)⟩, ⟨PyData.keyHash P "may_be_cut", .str "may_be_cut" 549, (.ref 291)⟩, ⟨PyData.keyHash P "third_corner", .str "third_corner" 555, (.ref 296)⟩, ⟨PyData.keyHash P "_law_cell_at", .str "_law_cell_at" 565, (.ref 303)⟩, ⟨PyData.keyHash P "_law_draws", .str "_law_draws" 571, (.ref 308)⟩, ⟨PyData.keyHash P "_law_number", .str "_law_number" 580, (.ref 315)⟩, ⟨PyData.keyHash P "_law_cuts", .str "_law_cuts" 598, (.ref 322)⟩, ⟨PyData.keyHash P "_law_pair", .str "_law_pair" 609, (.ref 329)⟩, ⟨PyData.keyHash P "_law_by_chance", .str "_law_by_chance" 621, (.ref 336)⟩, ⟨PyData.keyHash P "_law_changed", .str "_law_changed" 627, (.ref 341)⟩, ⟨PyData.keyHash P "_law_crossing", .str "_law_crossing" 638, (.ref 348)⟩, ⟨PyData.keyHash P "_law_stand", .str "_law_stand" 651, (.ref 355)⟩, ⟨PyData.keyHash P "_law_refused", .str "_law_refused" 661, (.ref 362)⟩, ⟨PyData.keyHash P "law", .str "law" 679, (.ref 369)⟩] 32), #[]⟩) :: (nat_lit 32, ⟨(.type "code"), none, (.fields #[(.str "any_cross" 202), (.str "any_cross" 203), (.str "/claim/cut.py" 204), (.int 7 0), (.int 1 0), (.int 0 0), (.int 0 0), (.int 3 0), (.ref 27), (.bool true), (.int 181 0), (.ref 28), .none, (.ref 29), (.ref 30), (.ref 31), (.int 210 0), (.int 7 0), (.str "/claim/cut.py" 211)]), #[]⟩) :: (nat_lit 33, ⟨(.type "function"), none, (.func (fnOf "any_cross" "any_cross" (defArgs (top 3)) (defBody (top 3)) (defScope (top 3)) .none .none .none (.str "countkin.common" 194) none (.ref 32) .none)), #[]⟩) :: (nat_lit 54, ⟨(.type "dict"), none, (.dict #[⟨PyData.keyHash P "__module__", .str "__module__" 239, (.str "countkin.errors" 230)⟩, ⟨PyData.keyHash P "__firstlineno__", .str "__firstlineno__" 243, (.int 25 242)⟩, ⟨PyData.keyHash P "__static_attributes__", .str "__static_attributes__" 244, (.ref 53)⟩, ⟨PyData.keyHash P "__weakref__", .str "__weakref__" 246, (.ref 56)⟩, ⟨PyData.keyHash P "__doc__", .str "__doc__" 247, .none⟩] 3), #[]⟩) :: (nat_lit 55, ⟨(.type "type"), none, (.cls ⟨"KinError", [(.type "ValueError")], [(.ref 55), (.type "ValueError"), (.type "Exception"), (.type "BaseException"), (.type "object")], 54, "KinError", true, [], [(.ref 68)], false, none, false⟩), #[(some (.ref 46)), none, (some (.str "KinError" 232)), (some (.str "KinError" 240)), (some (.builtin "ValueError.__new__")), (some (.bool true))]⟩) :: (nat_lit 56, ⟨(.type "getset_descriptor"), none, (.fields #[(.str "__weakref__" 245), (.ref 55), (.builtin "ExceptionGroup.__weakref__"), .none]), #[]⟩) :: (nat_lit 67, ⟨(.type "dict"), none, (.dict #[⟨PyData.keyHash P "__module__", .str "__module__" 257, (.str "countkin.errors" 230)⟩, ⟨PyData.keyHash P "__firstlineno__", .str "__firstlineno__" 261, (.int 27 260)⟩, ⟨PyData.keyHash P "__static_attributes__", .str "__static_attributes__" 262, (.ref 66)⟩, ⟨PyData.keyHash P "__doc__", .str "__doc__" 263, .none⟩] 2), #[]⟩) :: (nat_lit 68, ⟨(.type "type"), none, (.cls ⟨"NoThing", [(.ref 55)], [(.ref 68), (.ref 55), (.type "ValueError"), (.type "Exception"), (.type "BaseException"), (.type "object")], 67, "NoThing", true, [], [], false, none, false⟩), #[(some (.ref 59)), none, (some (.str "NoThing" 250)), (some (.str "NoThing" 258)), (some (.builtin "ValueError.__new__")), (some (.bool true))]⟩) :: (nat_lit 83, ⟨(.type "code"), none, (.fields #[(.str "__init__" 280), (.str "Family.__init__" 281), (.str "/claim/cut.py" 282), (.int 32 0), (.int 3 0), (.int 0 0), (.int 0 0), (.int 3 0), (.ref 78), (.bool true), (.int 181 0), (.ref 79), .none, (.ref 80), (.ref 81), (.ref 82), (.int 286 0), (.int 32 0), (.str "/claim/cut.py" 287)]), #[]⟩) :: (nat_lit 84, ⟨(.type "function"), none, (.func (fnOf "__init__" "Family.__init__" (defArgs (inClass (top 11) 0)) (defBody (inClass (top 11) 0)) (defScope (inClass (top 11) 0)) .none .none .none (.str "countkin.kin" 266) none (.ref 83) .none)), #[]⟩) :: (nat_lit 132, ⟨(.type "code"), none, (.fields #[(.str "refuse_other" 338), (.str "Family.refuse_other" 339), (.str "/claim/cut.py" 340), (.int 54 0), (.int 2 0), (.int 0 0), (.int 0 0), (.int 3 0), (.ref 127), (.bool true), (.int 181 0), (.ref 128), .none, (.ref 129), (.ref 130), (.ref 131), (.int 343 0), (.int 54 0), (.str "/claim/cut.py" 344)]), #[]⟩) :: (nat_lit 133, ⟨(.type "function"), none, (.func (fnOf "refuse_other" "Family.refuse_other" (defArgs (inClass (top 11) 7)) (defBody (inClass (top 11) 7)) (defScope (inClass (top 11) 7)) .none .none .none (.str "countkin.kin" 266) none (.ref 132) .none)), #[]⟩) :: (nat_lit 139, ⟨(.type "code"), none, (.fields #[(.str "number_of" 346), (.str "Family.number_of" 347), (.str "/claim/cut.py" 348), (.int 58 0), (.int 2 0), (.int 0 0), (.int 0 0), (.int 3 0), (.ref 134), (.bool true), (.int 181 0), (.ref 135), .none, (.ref 136), (.ref 137), (.ref 138), (.int 351 0), (.int 58 0), (.str "/claim/cut.py" 352)]), #[]⟩) :: (nat_lit 140, ⟨(.type "function"), none, (.func (fnOf "number_of" "Family.number_of" (defArgs (inClass (top 11) 8)) (defBody (inClass (top 11) 8)) (defScope (inClass (top 11) 8)) .none .none .none (.str "countkin.kin" 266) none (.ref 139) .none)), #[]⟩) :: (nat_lit 153, ⟨(.type "code"), none, (.fields #[(.str "next_of" 363), (.str "Family.next_of" 364), (.str "/claim/cut.py" 365), (.int 65 0), (.int 2 0), (.int 0 0), (.int 0 0), (.int 3 0), (.ref 148), (.bool true), (.int 181 0), (.ref 149), .none, (.ref 150), (.ref 151), (.ref 152), (.int 370 0), (.int 65 0), (.str "/claim/cut.py" 371)]), #[]⟩) :: (nat_lit 154, ⟨(.type "function"), none, (.func (fnOf "next_of" "Family.next_of" (defArgs (inClass (top 11) 10)) (defBody (inClass (top 11) 10)) (defScope (inClass (top 11) 10)) .none .none .none (.str "countkin.kin" 266) none (.ref 153) .none)), #[]⟩) :: (nat_lit 156, ⟨(.type "dict"), none, (.dict #[⟨PyData.keyHash P "__module__", .str "__module__" 275, (.str "countkin.kin" 266)⟩, ⟨PyData.keyHash P "__firstlineno__", .str "__firstlineno__" 279, (.int 30 278)⟩, ⟨PyData.keyHash P "__init__", .str "__init__" 288, (.ref 84)⟩, ⟨PyData.keyHash P "size_of", .str "size_of" 296, (.ref 91)⟩, ⟨PyData.keyHash P "is_one", .str "is_one" 304, (.ref 98)⟩, ⟨PyData.keyHash P "unchecked_many", .str "unchecked_many" 312, (.ref 105)⟩, ⟨PyData.keyHash P "unchecked_number", .str "unchecked_number" 320, (.ref 112)⟩, ⟨PyData.keyHash P "unchecked_thing", .str "unchecked_thing" 329, (.ref 119)⟩, ⟨PyData.keyHash P "many", .str "many" 337, (.ref 126)⟩, ⟨PyData.keyHash P "refuse_other", .str "refuse_other" 345, (.ref 133)⟩, ⟨PyData.keyHash P "number_of", .str "number_of" 353, (.ref 140)⟩, ⟨PyData.keyHash P "thing_of", .str "thing_of" 362, (.ref 147)⟩, ⟨PyData.keyHash P "next_of", .str "next_of" 372, (.ref 154)⟩, ⟨PyData.keyHash P "__static_attributes__", .str "__static_attributes__" 375, (.ref 155)⟩, ⟨PyData.keyHash P "__dict__", .str "__dict__" 377, (.ref 158)⟩, ⟨PyData.keyHash P "__weakref__", .str "__weakref__" 379, (.ref 159)⟩, ⟨PyData.keyHash P "__doc__", .str "__doc__" 380, .none⟩] 4), #[]⟩) :: (nat_lit 157, ⟨(.type "type"), none, (.cls ⟨"Family", [(.type "object")], [(.ref 157), (.type "object")], 156, "Family", true, [], [(.ref 232)], false, none, false⟩), #[none, none, (some (.str "Family" 268)), (some (.str "Family" 276)), (some (.builtin "object.__new__")), (some (.bool true))]⟩) :: (nat_lit 158, ⟨(.type "getset_descriptor"), none, (.fields #[(.str "__dict__" 376), (.ref 157), (.builtin "function.__dict__"), (.builtin "function.__dict__#set")]), #[]⟩) :: (nat_lit 159, ⟨(.type "getset_descriptor"), none, (.fields #[(.str "__weakref__" 378), (.ref 157), (.builtin "ExceptionGroup.__weakref__"), .none]), #[]⟩) :: (nat_lit 174, ⟨(.type "code"), none, (.fields #[(.str "__init__" 395), (.str "SplitFamily.__init__" 396), (.str "/claim/cut.py" 397), (.int 73 0), (.int 2 0), (.int 0 0), (.int 0 0), (.int 3 0), (.ref 169), (.bool true), (.int 181 0), (.ref 170), .none, (.ref 171), (.ref 172), (.ref 173), (.int 400 0), (.int 73 0), (.str "/claim/cut.py" 401)]), #[]⟩) :: (nat_lit 175, ⟨(.type "function"), none, (.func (fnOf "__init__" "SplitFamily.__init__" (defArgs (inClass (top 12) 0)) (defBody (inClass (top 12) 0)) (defScope (inClass (top 12) 0)) .none .none .none (.str "countkin.kin" 266) none (.ref 174) .none)), #[]⟩) :: (nat_lit 231, ⟨(.type "dict"), none, (.dict #[⟨PyData.keyHash P "__module__", .str "__module__" 390, (.str "countkin.kin" 266)⟩, ⟨PyData.keyHash P "__firstlineno__", .str "__firstlineno__" 394, (.int 71 393)⟩, ⟨PyData.keyHash P "__init__", .str "__init__" 402, (.ref 175)⟩, ⟨PyData.keyHash P "bare", .str "bare" 409, (.ref 182)⟩, ⟨PyData.keyHash P "parted", .str "parted" 417, (.ref 189)⟩, ⟨PyData.keyHash P "joined", .str "joined" 426, (.ref 196)⟩, ⟨PyData.keyHash P "unchecked_many", .str "unchecked_many" 434, (.ref 203)⟩, ⟨PyData.keyHash P "unchecked_number", .str "unchecked_number" 442, (.ref 210)⟩, ⟨PyData.keyHash P "unchecked_thing", .str "unchecked_thing" 451, (.ref 217)⟩, ⟨PyData.keyHash P "number_by_parts", .str "number_by_parts" 457, (.ref 222)⟩, ⟨PyData.keyHash P "thing_by_parts", .str "thing_by_parts" 472, (.ref 229)⟩, ⟨PyData.keyHash P "__static_attributes__", .str "__static_attributes__" 473, (.ref 230)⟩, ⟨PyData.keyHash P "__doc__", .str "__doc__" 474, .none⟩] 2), #[]⟩) :: (nat_lit 232, ⟨(.type "type"), none, (.cls ⟨"SplitFamily", [(.ref 157)], [(.ref 232), (.ref 157), (.type "object")], 231, "SplitFamily", true, [], [(.ref 282)], false, none, false⟩), #[(some (.ref 162)), none, (some (.str "SplitFamily" 383)), (some (.str "SplitFamily" 391)), (some (.builtin "object.__new__")), (some (.bool true))]⟩) :: (nat_lit 247, ⟨(.type "code"), none, (.fields #[(.str "__init__" 491), (.str "Floors.__init__" 492), (.str "/claim/cut.py" 493), (.int 120 0), (.int 1 0), (.int 0 0), (.int 0 0), (.int 3 0), (.ref 242), (.bool true), (.int 181 0), (.ref 243), .none, (.ref 244), (.ref 245), (.ref 246), (.int 495 0), (.int 120 0), (.str "/claim/cut.py" 496)]), #[]⟩) :: (nat_lit 248, ⟨(.type "function"), none, (.func (fnOf "__init__" "Floors.__init__" (defArgs (inClass (top 14) 0)) (defBody (inClass (top 14) 0)) (defScope (inClass (top 14) 0)) .none .none .none (.str "countkin.floors" 477) none (.ref 247) .none)), #[]⟩) :: (nat_lit 254, ⟨(.type "code"), none, (.fields #[(.str "size_of" 498), (.str "Floors.size_of" 499), (.str "/claim/cut.py" 500), (.int 123 0), (.int 2 0), (.int 0 0), (.int 0 0), (.int 3 0), (.ref 249), (.bool true), (.int 181 0), (.ref 250), .none, (.ref 251), (.ref 252), (.ref 253), (.int 503 0), (.int 123 0), (.str "/claim/cut.py" 504)]), #[]⟩) :: (nat_lit 255, ⟨(.type "function"), none, (.func (fnOf "size_of" "Floors.size_of" (defArgs (inClass (top 14) 1)) (defBody (inClass (top 14) 1)) (defScope (inClass (top 14) 1)) .none .none .none (.str "countkin.floors" 477) none (.ref 254) .none)), #[]⟩) :: (nat_lit 259, ⟨(.type "code"), none, (.fields #[(.str "is_one" 506), (.str "Floors.is_one" 507), (.str "/claim/cut.py" 508), (.int 126 0), (.int 2 0), (.int 0 0), (.int 0 0), (.int 3 0), (.ref 256), (.bool true), (.int 181 0), (.ref 257), .none, .none, .none, (.ref 258), (.int 509 0), (.int 126 0), (.str "/claim/cut.py" 510)]), #[]⟩) :: (nat_lit 260, ⟨(.type "function"), none, (.func (fnOf "is_one" "Floors.is_one" (defArgs (inClass (top 14) 2)) (defBody (inClass (top 14) 2)) (defScope (inClass (top 14) 2)) .none .none .none (.str "countkin.floors" 477) none (.ref 259) .none)), #[]⟩) :: (nat_lit 281, ⟨(.type "dict"), none, (.dict #[⟨PyData.keyHash P "__module__", .str "__module__" 486, (.str "countkin.floors" 477)⟩, ⟨PyData.keyHash P "__firstlineno__", .str "__firstlineno__" 490, (.int 118 489)⟩, ⟨PyData.keyHash P "__init__", .str "__init__" 497, (.ref 248)⟩, ⟨PyData.keyHash P "size_of", .str "size_of" 505, (.ref 255)⟩, ⟨PyData.keyHash P "is_one", .str "is_one" 511, (.ref 260)⟩, ⟨PyData.keyHash P "bare", .str "bare" 518, (.ref 267)⟩, ⟨PyData.keyHash P "parted", .str "parted" 524, (.ref 272)⟩, ⟨PyData.keyHash P "joined", .str "joined" 536, (.ref 279)⟩, ⟨PyData.keyHash P "__static_attributes__", .str "__static_attributes__" 537, (.ref 280)⟩, ⟨PyData.keyHash P "__doc__", .str "__doc__" 538, .none⟩] 2), #[]⟩) :: (nat_lit 282, ⟨(.type "type"), none, (.cls ⟨"Floors", [(.ref 232)], [(.ref 282), (.ref 232), (.ref 157), (.type "object")], 281, "Floors", true, [], [], false, none, false⟩), #[(some (.ref 235)), none, (some (.str "Floors" 479)), (some (.str "Floors" 487)), (some (.builtin "object.__new__")), (some (.bool true))]⟩) :: (nat_lit 290, ⟨(.type "code"), none, (.fields #[(.str "may_be_cut" 541), (.str "may_be_cut" 542), (.str "/claim/cut.py" 543), (.int 155 0), (.int 3 0), (.int 0 0), (.int 0 0), (.int 3 0), (.ref 285), (.bool true), (.int 181 0), (.ref 286), .none, (.ref 287), (.ref 288), (.ref 289), (.int 547 0), (.int 155 0), (.str "/claim/cut.py" 548)]), #[]⟩) :: (nat_lit 291, ⟨(.type "function"), none, (.func (fnOf "may_be_cut" "may_be_cut" (defArgs (top 15)) (defBody (top 15)) (defScope (top 15)) .none .none .none (.str "countkin.floors" 477) none (.ref 290) .none)), #[]⟩) :: (nat_lit 302, ⟨(.type "code"), none, (.fields #[(.str "_law_cell_at" 558), (.str "_law_cell_at" 559), (.str "/claim/cut.py" 560), (.int 160 0), (.int 2 0), (.int 0 0), (.int 0 0), (.int 3 0), (.ref 297), (.bool true), (.int 181 0), (.ref 298), .none, (.ref 299), (.ref 300), (.ref 301), (.int 563 0), (.int 160 0), (.str "/claim/cut.py" 564)]), #[]⟩) :: (nat_lit 303, ⟨(.type "function"), none, (.func (fnOf "_law_cell_at" "_law_cell_at" (defArgs (top 18)) (defBody (top 18)) (defScope (top 18)) .none .none .none (.str "law_countkin_k18_floors_looked_at" 556) none (.ref 302) .none)), #[]⟩) :: (nat_lit 307, ⟨(.type "code"), none, (.fields #[(.str "_law_draws" 566), (.str "_law_draws" 567), (.str "/claim/cut.py" 568), (.int 164 0), (.int 3 0), (.int 0 0), (.int 0 0), (.int 3 0), (.ref 304), (.bool true), (.int 181 0), (.ref 305), .none, .none, .none, (.ref 306), (.int 569 0), (.int 164 0), (.str "/claim/cut.py" 570)]), #[]⟩) :: (nat_lit 308, ⟨(.type "function"), none, (.func (fnOf "_law_draws" "_law_draws" (defArgs (top 19)) (defBody (top 19)) (defScope (top 19)) .none .none .none (.str "law_countkin_k18_floors_looked_at" 556) none (.ref 307) .none)), #[]⟩) :: (nat_lit 314, ⟨(.type "code"), none, (.fields #[(.str "_law_number" 572), (.str "_law_number" 573), (.str "/claim/cut.py" 574), (.int 181 0), (.int 3 0), (.int 0 0), (.int 0 0), (.int 3 0), (.ref 309), (.bool true), (.int 181 0), (.ref 310), .none, (.ref 311), (.ref 312), (.ref 313), (.int 578 0), (.int 181 0), (.str "/claim/cut.py" 579)]), #[]⟩) :: (nat_lit 315, ⟨(.type "function"), none, (.func (fnOf "_law_number" "_law_number" (defArgs (top 20)) (defBody (top 20)) (defScope (top 20)) .none .none .none (.str "law_countkin_k18_floors_looked_at" 556) none (.ref 314) .none)), #[]⟩) :: (nat_lit 321, ⟨(.type "code"), none, (.fields #[(.str "_law_cuts" 581), (.str "_law_cuts" 582), (.str "/claim/cut.py" 583), (.int 185 0), (.int 3 0), (.int 0 0), (.int 0 0), (.int 3 0), (.ref 316), (.bool true), (.int 181 0), (.ref 317), .none, (.ref 318), (.ref 319), (.ref 320), (.int 596 0), (.int 185 0), (.str "/claim/cut.py" 597)]), #[]⟩) :: (nat_lit 322, ⟨(.type "function"), none, (.func (fnOf "_law_cuts" "_law_cuts" (defArgs (top 21)) (defBody (top 21)) (defScope (top 21)) .none .none .none (.str "law_countkin_k18_floors_looked_at" 556) none (.ref 321) .none)), #[]⟩) :: (nat_lit 328, ⟨(.type "code"), none, (.fields #[(.str "_law_pair" 599), (.str "_law_pair" 600), (.str "/claim/cut.py" 601), (.int 205 0), (.int 3 0), (.int 0 0), (.int 0 0), (.int 3 0), (.ref 323), (.bool true), (.int 181 0), (.ref 324), .none, (.ref 325), (.ref 326), (.ref 327), (.int 607 0), (.int 205 0), (.str "/claim/cut.py" 608)]), #[]⟩) :: (nat_lit 329, ⟨(.type "function"), none, (.func (fnOf "_law_pair" "_law_pair" (defArgs (top 22)) (defBody (top 22)) (defScope (top 22)) .none .none .none (.str "law_countkin_k18_floors_looked_at" 556) none (.ref 328) .none)), #[]⟩) :: (nat_lit 335, ⟨(.type "code"), none, (.fields #[(.str "_law_by_chance" 610), (.str "_law_by_chance" 611), (.str "/claim/cut.py" 612), (.int 215 0), (.int 1 0), (.int 0 0), (.int 0 0), (.int 3 0), (.ref 330), (.bool true), (.int 181 0), (.ref 331), .none, (.ref 332), (.ref 333), (.ref 334), (.int 619 0), (.int 215 0), (.str "/claim/cut.py" 620)]), #[]⟩) :: (nat_lit 336, ⟨(.type "function"), none, (.func (fnOf "_law_by_chance" "_law_by_chance" (defArgs (top 23)) (defBody (top 23)) (defScope (top 23)) .none .none .none (.str "law_countkin_k18_floors_looked_at" 556) none (.ref 335) .none)), #[]⟩) :: (nat_lit 340, ⟨(.type "code"), none, (.fields #[(.str "_law_changed" 622), (.str "_law_changed" 623), (.str "/claim/cut.py" 624), (.int 223 0), (.int 5 0), (.int 0 0), (.int 0 0), (.int 3 0), (.ref 337), (.bool true), (.int 181 0), (.ref 338), .none, .none, .none, (.ref 339), (.int 625 0), (.int 223 0), (.str "/claim/cut.py" 626)]), #[]⟩) :: (nat_lit 341, ⟨(.type "function"), none, (.func (fnOf "_law_changed" "_law_changed" (defArgs (top 24)) (defBody (top 24)) (defScope (top 24)) .none .none .none (.str "law_countkin_k18_floors_looked_at" 556) none (.ref 340) .none)), #[]⟩) :: (nat_lit 347, ⟨(.type "code"), none, (.fields #[(.str "_law_crossing" 628), (.str "_law_crossing" 629), (.str "/claim/cut.py" 630), (.int 247 0), (.int 1 0), (.int 0 0), (.int 0 0), (.int 3 0), (.ref 342), (.bool true), (.int 181 0), (.ref 343), .none, (.ref 344), (.ref 345), (.ref 346), (.int 636 0), (.int 247 0), (.str "/claim/cut.py" 637)]), #[]⟩) :: (nat_lit 348, ⟨(.type "function"), none, (.func (fnOf "_law_crossing" "_law_crossing" (defArgs (top 25)) (defBody (top 25)) (defScope (top 25)) .none .none .none (.str "law_countkin_k18_floors_looked_at" 556) none (.ref 347) .none)), #[]⟩) :: (nat_lit 354, ⟨(.type "code"), none, (.fields #[(.str "_law_stand" 639), (.str "_law_stand" 640), (.str "/claim/cut.py" 641), (.int 253 0), (.int 2 0), (.int 0 0), (.int 0 0), (.int 3 0), (.ref 349), (.bool true), (.int 181 0), (.ref 350), .none, (.ref 351), (.ref 352), (.ref 353), (.int 649 0), (.int 253 0), (.str "/claim/cut.py" 650)]), #[]⟩) :: (nat_lit 355, ⟨(.type "function"), none, (.func (fnOf "_law_stand" "_law_stand" (defArgs (top 26)) (defBody (top 26)) (defScope (top 26)) .none .none .none (.str "law_countkin_k18_floors_looked_at" 556) none (.ref 354) .none)), #[]⟩) :: (nat_lit 361, ⟨(.type "code"), none, (.fields #[(.str "_law_refused" 652), (.str "_law_refused" 653), (.str "/claim/cut.py" 654), (.int 264 0), (.int 3 0), (.int 0 0), (.int 0 0), (.int 3 0), (.ref 356), (.bool true), (.int 181 0), (.ref 357), .none, (.ref 358), (.ref 359), (.ref 360), (.int 659 0), (.int 264 0), (.str "/claim/cut.py" 660)]), #[]⟩) :: (nat_lit 362, ⟨(.type "function"), none, (.func (fnOf "_law_refused" "_law_refused" (defArgs (top 27)) (defBody (top 27)) (defScope (top 27)) .none .none .none (.str "law_countkin_k18_floors_looked_at" 556) none (.ref 361) .none)), #[]⟩) :: (nat_lit 368, ⟨(.type "code"), none, (.fields #[(.str "law" 662), (.str "law" 663), (.str "/claim/cut.py" 664), (.int 275 0), (.int 1 0), (.int 0 0), (.int 0 0), (.int 3 0), (.ref 363), (.bool true), (.int 181 0), (.ref 364), .none, (.ref 365), (.ref 366), (.ref 367), (.int 677 0), (.int 275 0), (.str "/claim/cut.py" 678)]), #[]⟩) :: (nat_lit 369, ⟨(.type "function"), none, (.func (fnOf "law" "law" (defArgs (top 28)) (defBody (top 28)) (defScope (top 28)) .none .none .none (.str "law_countkin_k18_floors_looked_at" 556) none (.ref 368) .none)), #[]⟩) :: []
noncomputable def hA : List Addr := (2 :: 3 :: 32 :: 33 :: 54 :: 55 :: 56 :: 67 :: 68 :: 83 :: 84 :: 132 :: 133 :: 139 :: 140 :: 153 :: 154 :: 156 :: 157 :: 158 :: 159 :: 174 :: 175 :: 231 :: 232 :: 247 :: 248 :: 254 :: 255 :: 259 :: 260 :: 281 :: 282 :: 290 :: 291 :: 302 :: 303 :: 307 :: 308 :: 314 :: 315 :: 321 :: 322 :: 328 :: 329 :: 335 :: 336 :: 340 :: 341 :: 347 :: 348 :: 354 :: 355 :: 361 :: 362 :: 368 :: 369 :: [])
noncomputable def hM : List Bool := (false :: false :: true :: true :: false :: false :: false :: false :: false :: false :: false :: false :: false :: false :: false :: false :: false :: false :: false :: false :: false :: false :: false :: false :: false :: false :: false :: false :: false :: false :: false :: false :: true :: true :: false :: false :: false :: false :: false :: false :: false :: false :: false :: false :: false :: false :: false :: false :: false :: false :: false :: false :: false :: false :: true :: true :: true :: false :: false :: false :: false :: false :: false :: false :: false :: false :: false :: true :: true :: false :: false :: false :: false :: false :: false :: false :: false :: false :: false :: false :: false :: false :: false :: true :: true :: false :: false :: false :: false :: false :: false :: false :: false :: false :: false :: false :: false :: false :: false :: false :: false :: false :: false :: false :: false :: false :: false :: false :: false :: false :: false :: false :: false :: false :: false :: false :: false :: false :: false :: false :: false :: false :: false :: false :: false :: false :: false :: false :: false :: false :: false :: false :: true :: true :: false :: false :: false :: false :: false :: true :: true :: false :: false :: false :: false :: false :: false :: false :: false :: false :: false :: false :: false :: true :: true :: false :: true :: true :: true :: true :: false :: false :: false :: false :: false :: false :: false :: false :: false :: false :: false :: false :: false :: false :: true :: true :: false :: false :: false :: false :: false :: false :: false :: false :: false :: false :: false :: false :: false :: false :: false :: false :: false :: false :: false :: false :: false :: false :: false :: false :: false :: false :: false :: false :: false :: false :: false :: false :: false :: false :: false :: false :: false :: false :: false :: false :: false :: false :: false :: false :: false :: false :: false :: false :: false :: false :: false :: false :: false :: false :: false :: true :: true :: false :: false :: false :: false :: false :: false :: false :: false :: false :: false :: false :: false :: false :: false :: true :: true :: false :: false :: false :: false :: false :: true :: true :: false :: false :: false :: true :: true :: false :: false :: false :: false :: false :: false :: false :: false :: false :: false :: false :: false :: false :: false :: false :: false :: false :: false :: false :: false :: true :: true :: false :: false :: false :: false :: false :: false :: false :: true :: true :: false :: false :: false :: false :: false :: false :: false :: false :: false :: false :: true :: true :: false :: false :: false :: true :: true :: false :: false :: false :: false :: false :: true :: true :: false :: false :: false :: false :: false :: true :: true :: false :: false :: false :: false :: false :: true :: true :: false :: false :: false :: false :: false :: true :: true :: false :: false :: false :: true :: true :: false :: false :: false :: false :: false :: true :: true :: false :: false :: false :: false :: false :: true :: true :: false :: false :: false :: false :: false :: true :: true :: false :: false :: false :: false :: false :: true :: true :: [])
theorem hAM : hA = idxM hM 0 := by kernel_rfl
noncomputable abbrev hX : Shared → Bool := (fun s => xlAt hQ [] s && recOk (RowW.records (OpenRow.toRowW (OpenLaw.row PySem.Challenge.rw_countkin_k18_floors_looked_at))) s)
theorem hKA : ∀ P : Params, hA = (hK P).map (·.1) := fun _ => by kernel_rfl
noncomputable abbrev hH : Hook := kHook hK hA hKA
noncomputable def hLook (P : Params) (s : Shared) := ((staticsOk (importedModules PySem.Challenge.pw_countkin_k18_floors_looked_at.main.body) (boot_heap P) s.heap && namesBound PySem.Challenge.pw_countkin_k18_floors_looked_at s.heap && gensDone s && laidKept (boot_heap P) s.heap), openSeen hQ hL (importedModules PySem.Challenge.pw_countkin_k18_floors_looked_at.main.body) hX true s, pickM s.heap.objs.toList hM)
noncomputable def hPreF (w : World) (os : OsState) := topGo treeTable PySem.Challenge.pw_countkin_k18_floors_looked_at w 11 (some (.ref 6)) 12 ⟨boot_heap w.params, Array.mk [], boot_drawn, boot_toks, os⟩ (topStub PySem.Challenge.pw_countkin_k18_floors_looked_at)
noncomputable def hPreG (w : World) (os : OsState) : Option (Shared × Thread) := some ((hS w os).abs, ⟨denote treeTable hC, hC, ⟨0, 0, 0, 0⟩, [topFrame ⟨0, 0, 0, 0⟩]⟩)
noncomputable def hBlkF (w : World) (os : OsState) := segRun treeTable PySem.Challenge.pw_countkin_k18_floors_looked_at w 11 (some (.ref 6)) 1 1 (hS w os).abs (blockOf hB hE hC ⟨0, 0, 0, 0⟩ [topFrame ⟨0, 0, 0, 0⟩])
noncomputable def hBlkG (w : World) (os : OsState) : Option (Flow × Shared × Code × Pos) := some (.next, (hS w os).abs, hC, ⟨0, 0, 0, 0⟩)
noncomputable def hRunF (w : World) (os : OsState) := (segRunT treeTable PySem.Challenge.pw_countkin_k18_floors_looked_at w 11 (some (.ref 6)) 1 2480 (hS w os) (piecesOf hB hE hC ⟨0, 0, 0, 0⟩ [topFrame ⟨0, 0, 0, 0⟩])).map (lookEnd treeTable PySem.Challenge.pw_countkin_k18_floors_looked_at w 11 (some (.ref 6)) ⟨0, 0, 0, 0⟩ hC 2 (hLook w.params))
noncomputable def hRunG (w : World) (_ : OsState) := some (Flow.next, hC, some (true, openGood hQ hL, (hK w.params).map fun p => some p.2))
noncomputable def hSizF (w : World) := ((boot_heap w.params).isNs mainGlobals && (Array.mk [] : Array GenState).size == 0, (boot_heap w.params).objs.size, (boot_heap w.params).nsMap mainGlobals "__annotations__")
noncomputable def hSizG (_ : World) : Bool × Nat × Option Value := (true, 11, (some (.ref 6)))
theorem hSeed : (fun _ _ _ _ _ _ _ _ => true) hPreF hPreG hBlkF hBlkG hRunF hRunG hSizF hSizG = true := by k_qdec
theorem hPre : hPreF = hPreG := Eq.trans PySem.W.Fast.te5317814654954331368 (Eq.trans (by kernel_rfl) (Eq.symm PySem.W.Fast.te14277440360295502494))
theorem hBlk : hBlkF = hBlkG := Eq.trans PySem.W.Fast.te2033988648308832629 (Eq.trans (by kernel_rfl) (Eq.symm PySem.W.Fast.te1798457917166677164))
theorem hRun : hRunF = hRunG := Eq.trans PySem.W.Fast.te6412348297585774662 (Eq.trans (by kernel_rfl) (Eq.symm PySem.W.Fast.te15447895654253735931))
theorem hSiz : hSizF = hSizG := Eq.trans PySem.W.Fast.te13693962943478796877 (by kernel_rfl)
theorem hLeft : LeftO PySem.Challenge.pw_countkin_k18_floors_looked_at hQ hL hX (Hook.obs hH) (Hook.val hH) 5084 :=
  left_whole (boot_open (by kernel_rfl) (by decide) (fun _ => by kernel_rfl)) (fun w => congrFun hSiz w)
    (fun w os => by
      obtain ⟨e, r, l⟩ := run_whole (b := hB) (env := hE) (L := hLook w.params) rfl (congrFun (congrFun hPre w) os) (congrFun (congrFun hBlk w) os) (congrFun (congrFun hRun w) os)
      exact ⟨e, r, (congrArg (fun z => (_, _, z)) (pick_eq hAM e.heap)).trans l⟩) (by decide)
end Ck
open PySem PySem.W PyProof.Rows
set_option maxRecDepth 100000 in
set_option maxHeartbeats 0 in
theorem PySem.Challenge.cw_countkin_k18_floors_looked_at_holds : PySem.Challenge.rw_countkin_k18_floors_looked_at.Holds := by
  w_on; o_law
  refine holds_open (q := Ck.hQ) (loose := Ck.hL) (Xt := Ck.hX) (XP := XL Ck.hQ []) (Yf := Hook.obs (kHook Ck.hK Ck.hA Ck.hKA)) (Ya := Hook.val (kHook Ck.hK Ck.hA Ck.hKA)) (YP := Hook.says (kHook Ck.hK Ck.hA Ck.hKA)) (N := 5084) Ck.hLeft (Hook.of (kHook Ck.hK Ck.hA Ck.hKA)) (Hook.keeps (kHook Ck.hK Ck.hA Ck.hKA))
    (fun s e => xl_of s (Bool.and_eq_true_iff.mp e).1) XL.keeps (by rfl) (by rfl) (by rfl) (fun s e => recFacts_of (Bool.and_eq_true_iff.mp e).2) (by rfl) (by first | assumption | decide +kernel) (by decide +kernel) ⟨rfl, rfl, rfl, rfl, rfl, by decide +kernel⟩ ?hw ?hc
  case hw => w_witness2
  k_fill
  refine Ck.walk (l := PySem.Challenge.rw_countkin_k18_floors_looked_at) rfl rfl (fun w h Y => PySem.W.kIn_of Y) ?F
  case F =>
    intro w mg fa h KX G hmg
    refine' Ck.all_mk KX G hmg ?nc_Floors ?nc_SplitFamily ?nc_Family ?a_Floors_is_one ?a_Floors_size_of ?a_Floors_number_of ?a_Floors_next_of ?a_Floors_refuse_other ?ai_Floors ?ch_SplitFamily___init___Floors ?cg_SplitFamily___init___Floors ?cr_SplitFamily___init___Floors ?ch_Family___init___Floors ?cg_Family___init___Floors ?cr_Family___init___Floors ?a1 ?l1 ?c1 ?k1 ?a2 ?l2 ?c2 ?k2 ?a3 ?l3 ?c3 ?k3 ?a4 ?l4 ?c4 ?k4 ?a5 ?l5 ?c5 ?k5 ?a6 ?l6 ?c6 ?k6 ?a7 ?l7 ?c7 ?k7 ?a8 ?l8 ?c8 ?k8 ?a9 ?l9 ?c9 ?k9 ?l10 ?c10 ?k10 ?i10 ?l11 ?c11 ?k11 ?i11 ?l12 ?c12 ?k12 ?i12 ?a13 ?l13 ?c13 ?k13 ?a14 ?l14 ?c14 ?k14 ?l15 ?c15 ?k15 ?i15 ?l16 ?c16 ?k16 ?i16 ?l17 ?c17 ?k17 ?i17 ?l18 ?c18 ?k18 ?i18 ?a19 ?l19 ?c19 ?k19 ?l20 ?c20 ?k20 ?i20 ?a21 ?l21 ?c21 ?k21 ?pg_Floors ?hd_Floors ?po_Floors ?sa_Floors ?mk_Floors ?kc_Floors ?na_Floors_word ?na_Floors_least ?z_len ?z_range ?z_sorted ?z_max ?z_min ?z_set ?z_all ?z_list ?z_isinstance ?z_bool ?z_int ?n_thing ?t_err
    (case nc_Floors => k_is)
    (case nc_SplitFamily => k_is)
    (case nc_Family => k_is)
    (case a_Floors_is_one => k_is)
    (case a_Floors_size_of => k_is)
    (case a_Floors_number_of => k_is)
    (case a_Floors_next_of => k_is)
    (case a_Floors_refuse_other => k_is)
    (case ai_Floors => k_is)
    (case ch_SplitFamily___init___Floors => k_is)
    (case cg_SplitFamily___init___Floors => k_is)
    (case cr_SplitFamily___init___Floors => k_is)
    (case ch_Family___init___Floors => k_is)
    (case cg_Family___init___Floors => k_is)
    (case cr_Family___init___Floors => k_is)
    (case a1 => k_is)
    (case l1 => k_is)
    (case c1 => k_is)
    (case k1 => k_is)
    (case a2 => k_is)
    (case l2 => k_is)
    (case c2 => k_is)
    (case k2 => k_is)
    (case a3 => k_is)
    (case l3 => k_is)
    (case c3 => k_is)
    (case k3 => k_is)
    (case a4 => k_is)
    (case l4 => k_is)
    (case c4 => k_is)
    (case k4 => k_is)
    (case a5 => k_is)
    (case l5 => k_is)
    (case c5 => k_is)
    (case k5 => k_is)
    (case a6 => k_is)
    (case l6 => k_is)
    (case c6 => k_is)
    (case k6 => k_is)
    (case a7 => k_is)
    (case l7 => k_is)
    (case c7 => k_is)
    (case k7 => k_is)
    (case a8 => k_is)
    (case l8 => k_is)
    (case c8 => k_is)
    (case k8 => k_is)
    (case a9 => k_is)
    (case l9 => k_is)
    (case c9 => k_is)
    (case k9 => k_is)
    (case l10 => k_is)
    (case c10 => k_is)
    (case k10 => k_is)
    (case i10 => k_is)
    (case l11 => k_is)
    (case c11 => k_is)
    (case k11 => k_is)
    (case i11 => k_is)
    (case l12 => k_is)
    (case c12 => k_is)
    (case k12 => k_is)
    (case i12 => k_is)
    (case a13 => k_is)
    (case l13 => k_is)
    (case c13 => k_is)
    (case k13 => k_is)
    (case a14 => k_is)
    (case l14 => k_is)
    (case c14 => k_is)
    (case k14 => k_is)
    (case l15 => k_is)
    (case c15 => k_is)
    (case k15 => k_is)
    (case i15 => k_is)
    (case l16 => k_is)
    (case c16 => k_is)
    (case k16 => k_is)
    (case i16 => k_is)
    (case l17 => k_is)
    (case c17 => k_is)
    (case k17 => k_is)
    (case i17 => k_is)
    (case l18 => k_is)
    (case c18 => k_is)
    (case k18 => k_is)
    (case i18 => k_is)
    (case a19 => k_is)
    (case l19 => k_is)
    (case c19 => k_is)
    (case k19 => k_is)
    (case l20 => k_is)
    (case c20 => k_is)
    (case k20 => k_is)
    (case i20 => k_is)
    (case a21 => k_is)
    (case l21 => k_is)
    (case c21 => k_is)
    (case k21 => k_is)
    (case pg_Floors => k_is)
    (case hd_Floors => k_is)
    (case po_Floors => k_is)
    (case sa_Floors => k_is)
    (case mk_Floors => k_is)
    (case kc_Floors => k_is)
    (case na_Floors_word => k_is)
    (case na_Floors_least => k_is)
    (case z_len => k_is)
    (case z_range => k_is)
    (case z_sorted => k_is)
    (case z_max => k_is)
    (case z_min => k_is)
    (case z_set => k_is)
    (case z_all => k_is)
    (case z_list => k_is)
    (case z_isinstance => k_is)
    (case z_bool => k_is)
    (case z_int => k_is)
    (case n_thing => k_is)
    (case t_err => kernel_rfl)
